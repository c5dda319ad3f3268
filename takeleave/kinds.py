"""Kinds of things, of stacks and of rows."""

from takeleave.forms import has_form, is_marked
from takeleave.kindfilling import filled_part
from takeleave.kindmarks import marks_of_row_kind
from takeleave.opennames import GREAT_LETTERS, is_open_name, is_open_rest, is_open_thing, lettered
from takeleave.words import SMALL_LETTERS


def is_kind(thing):
    """Whether anything is a kind of things."""
    return has_form("kind", thing, asked_within)


def is_stack_kind(thing):
    """Whether anything is a kind of stacks."""
    return has_form("stack", thing, asked_within)


def is_row_kind(thing):
    """Whether anything is a row's kind."""
    return has_form("row", thing, asked_within)


def asked_within(sort, part):
    """What a sort asks of the parts of a part, as has_form wants it."""
    if sort == "kind":
        return asked_of_kind(part)
    if sort == "stack":
        return asked_of_stack(part)
    return asked_of_row(part)


def asked_of_row(part):
    """What must hold of the parts of a row's kind."""
    if not isinstance(part, tuple) or len(part) != 2:
        return None
    return [("stack", part[0]), ("stack", part[1])]


def asked_of_kind(part):
    """What must hold of the parts of a kind of things."""
    if not is_marked(part):
        return None
    mark, held = part[0], part[1:]
    if mark == "number" and len(held) == 0:
        return []
    if mark == "open" and len(held) == 1 and is_open_thing(held[0]):
        return []
    if mark == "list" and len(held) == 1:
        return [("kind", held[0])]
    if mark == "row":
        return asked_of_row(held)
    return None


def asked_of_stack(part):
    """What must hold of the parts of a kind of stacks."""
    if not is_marked(part) or len(part) != 2:
        return None
    rest, kinds = part
    if not isinstance(kinds, tuple) or not (rest == "" or is_open_rest(rest)):
        return None
    return [("kind", kind) for kind in kinds]


def opens_of(take, leave):
    """All open names of a row's kind, in the order in which each comes first as it is written."""
    # A dict keeps the order in which its keys were added.
    names = {mark: True for mark in marks_of_row_kind(take, leave) if is_open_name(mark)}
    return tuple(names)


def told_form(take, leave):
    """A row's kind with its open names in the order of the letters."""
    names = opens_of(take, leave)
    rests = [name for name in names if is_open_rest(name)]
    things = [name for name in names if is_open_thing(name)]
    table = {name: (lettered(at, GREAT_LETTERS), ()) for at, name in enumerate(rests)}
    for at, name in enumerate(things):
        table[name] = ("open", lettered(at, SMALL_LETTERS))
    return filled_part("stack", take, table), filled_part("stack", leave, table)
