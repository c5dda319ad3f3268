"""The seven turning rules, by which a stretch of words turns to another one, and that one to it."""

from takeleave.errors import NoStep
from takeleave.forms import is_equal
from takeleave.maps import least_map, map_of
from takeleave.pushes import is_push, is_row_push, push_row, pushes_of, row_pushed
from takeleave.shuffles import is_shuffle, is_shuffle_row, taken_left
from takeleave.steps import step

EXCHANGE = "ab-ba"
EITHER_WAY = ("plus", "times", "same")


def turns_to(rule, old, new, book=None):
    """Whether one of two stretches of words turns to the other by a rule, left to right or right to left."""
    return leads_to(rule, old, new, book) or leads_to(rule, new, old, book)


def leads_to(rule, left, right, book):
    """Whether a stretch turns to another one by a rule, left to right."""
    if not isinstance(rule, str):
        return False
    if rule == "mapped":
        return is_shuffle_row(left) and is_shuffle_row(right) and map_of(left) == map_of(right)
    if rule == "slid":
        return is_slid(left, right)
    if rule not in MADE_BY:
        return False
    make = MADE_BY[rule]
    made = make(left, book)
    return made is not None and is_equal(made, right)


def is_slid(left, right):
    """Whether a stretch is a shuffle that is dipped, and another one a shuffle that does the same."""
    slid = slid_map(left)
    return slid is not None and len(right) == 1 and is_shuffle_row(right) and map_of(right) == slid


def slid_map(stretch):
    """The least map of what a stretch does that dips a shuffle alone; None of other stretches."""
    row = dipped_row(stretch)
    if row is None or len(row) != 1 or not is_shuffle(row[0]):
        return None
    n, picks = taken_left(row[0])
    return least_map(n + 1, picks + (n,))


def dipped_row(stretch):
    """The row of a stretch that pushes a row and dips it; None of other stretches."""
    if len(stretch) != 2 or not is_row_push(stretch[0]) or stretch[1] != "dip":
        return None
    return row_pushed(stretch[0])


# Each of the following tells the one stretch that another one turns to by a rule, left to right, or None.


def stepped_made(stretch, book):
    """What a step makes of pushes and a text."""
    if len(stretch) == 0 or is_push(stretch[-1]) or not all([is_push(word) for word in stretch[:-1]]):
        return None
    try:
        stack, todo = step((tuple([word[1] for word in stretch[:-1]]), stretch[-1:]), book)
    except NoStep:
        return None
    return pushes_of(stack) + todo


def turned_made(stretch, book):
    """A word that does the same either way about, without the exchange ahead of it."""
    if len(stretch) == 2 and stretch[0] == EXCHANGE and stretch[1] in EITHER_WAY:
        return stretch[1:]
    return None


def dips_made(stretch, book):
    """Two rows that are dipped, as one."""
    one, other = dipped_row(stretch[:2]), dipped_row(stretch[2:])
    if one is None or other is None:
        return None
    return (push_row(one + other), "dip")


def beneath_made(stretch, book):
    """A thing that is put beneath the top, by an exchange."""
    row = dipped_row(stretch)
    if row is None or len(row) != 1 or not is_push(row[0]):
        return None
    return (row[0], EXCHANGE)


def emptied_made(stretch, book):
    """What is left of a row without words that is dipped: there must be a thing."""
    row = dipped_row(stretch)
    return ("a-a",) if row is not None and len(row) == 0 else None


MADE_BY = {
    "stepped": stepped_made,
    "turned": turned_made,
    "dips": dips_made,
    "beneath": beneath_made,
    "emptied": emptied_made,
}
