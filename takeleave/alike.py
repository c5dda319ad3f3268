"""Whether two rows are alike, by a paper, or part, on a stack."""

from takeleave.forms import is_equal
from takeleave.maps import parting
from takeleave.runs import advance, begun
from takeleave.shorter import shorter
from takeleave.shuffles import is_shuffle_row
from takeleave.sizes import is_bounded
from takeleave.texts import show_stack
from takeleave.turns import turned_back

MOST_STEPS = 400
# How many steps and signs there may be in all ahead of giving up: rows that run long are not tried for long.
MOST_EFFORT = 60000
# The numbers from 0 on that are tried, and how many of them in a stack.
NUMBERS_TRIED = 5
MOST_THINGS = 8
# The words that make things greater than those that they take.
GROWING = ("join", "wrap", "put")


def alike(one, other, book=None):
    """What is told of two rows: alike and a paper, parted and a stack, or open."""
    if is_shuffle_row(one) and is_shuffle_row(other):
        return alike_shuffles(one, other)
    short, paper = shorter(one, book)
    other_short, other_paper = shorter(other, book)
    if is_equal(short, other_short):
        return "alike", paper + turned_back(other, other_paper, book)
    stack = parting_numbers(one, other, book)
    return ("open",) if stack is None else ("parted", stack)


def alike_shuffles(one, other):
    """What is told of two rows of shuffles."""
    stack = parting(one, other)
    if stack is None:
        return "alike", (((0,), len(one), "mapped", other),)
    return "parted", stack


def parting_numbers(one, other, book):
    """A stack of numbers from which two rows end with unlike stacks, or None where none of those tried is one."""
    effort = 0
    for numbers in tried_numbers():
        stack = tuple([("number", number) for number in numbers])
        end, spent = end_of(one, stack, book)
        effort += spent
        if end is not None:
            other_end, spent = end_of(other, stack, book)
            effort += spent
            if other_end is not None and end != other_end:
                return stack
        if effort > MOST_EFFORT:
            return None
    return None


def tried_numbers():
    """The tuples of numbers that are tried, each once: those that go up at one pace, and all of three."""
    tried = {}
    for start in range(NUMBERS_TRIED):
        for pace in range(NUMBERS_TRIED):
            for many in range(MOST_THINGS + 1):
                tried[tuple([(start + pace * at) % NUMBERS_TRIED for at in range(many)])] = True
    for low in range(NUMBERS_TRIED):
        for middle in range(NUMBERS_TRIED):
            for high in range(NUMBERS_TRIED):
                tried[(low, middle, high)] = True
    return list(tried)


def end_of(row, stack, book):
    """The text of the stack with which a row ends, None where it does not end in time, and the effort spent."""
    things, todo = begun(row, stack)
    steps = 0
    while len(todo) > 0:
        word = todo[-1]
        if steps == MOST_STEPS or not advance(things, todo, book):
            return None, steps
        steps += 1
        # Things may double at each step: such a row is left, as one that does not end.
        if word in GROWING and not is_bounded(things[-1]):
            return None, steps
    end = show_stack(things)
    return end, steps + len(end)
