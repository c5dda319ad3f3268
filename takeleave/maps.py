"""Shuffles as maps: which of the things on top are left, and in which order."""

from takeleave.errors import NoShuffle
from takeleave.shuffles import is_shuffle_row, taken_left


def least_map(n, picks):
    """The least map that does the same as this one."""
    cut = 0
    # What is cut stands once and lowest: so the picks behind it are never below what has been cut so far.
    while cut < len(picks) and picks[cut] == cut and cut not in picks[cut + 1:]:
        cut += 1
    return n - cut, tuple([pick - cut for pick in picks[cut:]])


def map_of(row):
    """The least map of a row of shuffles."""
    n, picks = whole_map(row)
    return least_map(n, picks)


def need_of(row):
    """How many things there must be for a row of shuffles."""
    return whole_map(row)[0]


def whole_map(row):
    """The map of a row of shuffles on all things that there must be."""
    if not is_shuffle_row(row):
        raise NoShuffle("a row with words other than shuffles has no map")
    # Things are numbered from the top of the stack downwards, as it is not yet known how many there must be.
    need = 0
    things = []
    for word in row:
        n, picks = taken_left(word)
        while len(things) < n:
            things.insert(0, need)
            need += 1
        taken = things[len(things) - n:]
        things[len(things) - n:] = [taken[pick] for pick in picks]
    return need, tuple([need - 1 - thing for thing in things])


def parting(one, other):
    """The stack on which two rows of shuffles part, or None where they are alike."""
    need, picks = whole_map(one)
    other_need, other_picks = whole_map(other)
    if least_map(need, picks) == least_map(other_need, other_picks):
        return None
    return tuple([("number", number) for number in range(max(need, other_need))])
