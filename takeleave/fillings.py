"""Fillings: what stands in the place of open names."""

from takeleave.kindfilling import filled_part
from takeleave.kindmarks import marks_of, marks_of_row_kind
from takeleave.kinds import is_kind, is_stack_kind, told_form
from takeleave.opennames import is_open_rest, is_open_thing


def is_filling_form(thing):
    """Whether anything is a filling."""
    if not isinstance(thing, tuple) or not all([is_pair_form(pair) for pair in thing]):
        return False
    names = [pair[0] for pair in thing]
    return all([name < behind for name, behind in zip(names, names[1:])])


def is_pair_form(thing):
    """Whether anything is an open name and what may stand for it."""
    if not isinstance(thing, tuple) or len(thing) != 2:
        return False
    name, part = thing
    if is_open_thing(name):
        return is_kind(part)
    return is_open_rest(name) and is_stack_kind(part)


def filled(kind, filling):
    """A kind of things filled by a filling."""
    return filled_part("kind", kind, dict(filling))


def filled_stack(kind, filling):
    """A kind of stacks filled by a filling."""
    return filled_part("stack", kind, dict(filling))


def after(one, other):
    """The filling by one and then by other."""
    table = dict(other)
    parts = dict(other)
    for name, part in one:
        parts[name] = filled_part("stack" if is_open_rest(name) else "kind", part, table)
    return rising(parts)


def rising(parts):
    """The filling of a dict of what stands for each open name."""
    return tuple([(name, parts[name]) for name in sorted(parts)])


def filling_to(one, other):
    """The filling that makes other of one, both rows' kinds, with all names of one, or None."""
    found = {}
    waiting = [("stack", one[0], other[0]), ("stack", one[1], other[1])]
    while waiting:
        sort, part, wanted = waiting.pop()
        inner = met_stack(part, wanted, found) if sort == "stack" else met_kind(part, wanted, found)
        if inner is None:
            return None
        waiting.extend(inner)
    return rising(found)


def met_stack(stack, wanted, found):
    """What must still be met so that a kind of stacks is filled to another one, or None where it cannot be."""
    rest, kinds = stack
    wanted_rest, wanted_kinds = wanted
    many = len(wanted_kinds) - len(kinds)
    if many < 0:
        return None
    beneath = (wanted_rest, wanted_kinds[:many])
    if rest == "" and (wanted_rest != "" or many > 0):
        return None
    if rest != "" and not is_found("stack", rest, beneath, found):
        return None
    return [("kind", kind, new) for kind, new in zip(kinds, wanted_kinds[many:])]


def met_kind(kind, wanted, found):
    """What must still be met so that a kind of things is filled to another one, or None where it cannot be."""
    if kind[0] == "open":
        return [] if is_found("kind", kind[1], wanted, found) else None
    if kind[0] != wanted[0]:
        return None
    if kind[0] == "number":
        return []
    if kind[0] == "list":
        return [("kind", kind[1], wanted[1])]
    return [("stack", kind[1], wanted[1]), ("stack", kind[2], wanted[2])]


def is_found(sort, name, part, found):
    """Whether a part may stand for a name: it is noted at the name's first place, and is the same at others."""
    if name not in found:
        found[name] = part
        return True
    # Marks stand in a flat list: tuples nested very deep cannot be compared by ==.
    return marks_of(sort, found[name]) == marks_of(sort, part)


def same_kind(one, other):
    """Whether two rows' kinds differ in the names alone."""
    return told_marks(one) == told_marks(other)


def told_marks(kind):
    """The marks of the told form of a row's kind."""
    take, leave = kind
    told_take, told_leave = told_form(take, leave)
    return marks_of_row_kind(told_take, told_leave)
