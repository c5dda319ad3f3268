"""Codes for a machine with registers, and running them.

Registers are called cells here, as `register` may not be a name.
"""

from takeleave.errors import NoStep
from takeleave.forms import has_form, is_marked, is_whole
from takeleave.steps import effect_of_basic, held_as, takes_of
from takeleave.things import is_thing

# The words of ops that make one thing of those in cells.
MAKING = ("plus", "minus", "times", "less", "same", "put", "join", "wrap")


def is_code(thing):
    """Whether anything is a code."""
    return has_form("code", thing, asked_of_code)


def asked_of_code(sort, part):
    """What must hold of the codes in a code, as has_form wants it."""
    if not is_code_form(part):
        return None
    many, ops, outs = part
    asked = []
    for op in ops:
        if not is_op(op, many):
            return None
        if op[0] == "if":
            asked.extend([(sort, side) for side in op[3:]])
            many += len(op[3][2])
        else:
            many += 1
    return asked if are_cells(outs, many) else None


def is_code_form(thing):
    """Whether anything is a number, not below 0, and two tuples."""
    if not isinstance(thing, tuple) or len(thing) != 3:
        return False
    takes, ops, outs = thing
    return is_whole(takes) and takes >= 0 and isinstance(ops, tuple) and isinstance(outs, tuple)


def is_op(thing, many):
    """Whether anything is an op where there are so many cells; the codes in it are not looked into."""
    if not is_marked(thing):
        return False
    mark, held = thing[0], thing[1:]
    if mark == "push":
        return len(held) == 1 and is_thing(held[0])
    if mark == "if":
        return len(held) == 4 and is_choice(held, many)
    return mark in MAKING and len(held) == takes_of(mark) and are_cells(held, many)


def is_choice(held, many):
    """Whether a cell, cells and two codes that take these and leave as many are a choice."""
    cell, args, one, other = held
    if not are_cells((cell,), many) or not isinstance(args, tuple) or not are_cells(args, many):
        return False
    if not is_code_form(one) or not is_code_form(other):
        return False
    return one[0] == len(args) and other[0] == len(args) and len(one[2]) == len(other[2])


def are_cells(things, many):
    """Whether all of these are numbers of cells where there are so many."""
    return all([is_whole(thing) and 0 <= thing < many for thing in things])


class CodeRun:
    """A code that is being run: what its cells hold so far, and its ops that are still to be done, the next last."""

    def __init__(self, code, things):
        takes, ops, outs = code
        if len(things) != takes:
            raise NoStep("the code takes another number of things")
        self.cells = list(things)
        self.todo = list(ops[::-1])
        self.outs = outs

    def things_in(self, cells):
        """What these cells hold."""
        return tuple([self.cells[cell] for cell in cells])


def run_code(code, things):
    """The things that a code tells of a tuple of things."""
    # A choice is run as a code of its own, ahead of the rest of the code around it: no calls within calls.
    runs = [CodeRun(code, things)]
    while True:
        now = runs[-1]
        if len(now.todo) > 0:
            do_op(runs, now, now.todo.pop())
        else:
            told = now.things_in(now.outs)
            runs.pop()
            if len(runs) == 0:
                return told
            runs[-1].cells.extend(told)


def do_op(runs, now, op):
    """Do an op of a code that is being run, or begin the code that it chooses."""
    mark = op[0]
    if mark == "push":
        now.cells.append(op[1])
    elif mark == "if":
        cell, args, one, other = op[1:]
        number = held_as("number", now.cells[cell])
        runs.append(CodeRun(one if number != 0 else other, now.things_in(args)))
    else:
        taken, left, ahead = effect_of_basic(mark, now.things_in(op[1:]))
        now.cells.extend(left)
