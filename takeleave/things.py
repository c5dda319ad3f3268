"""Things, words, rows and stacks."""

from takeleave.forms import has_form, is_marked, is_whole
from takeleave.shuffles import is_shuffle
from takeleave.words import SMALL_LETTERS, is_basic

NUMBERS = 10 ** 12
LONGEST_NAME = 8

# What each part of a tuple of this sort must be.
SORT_OF_PARTS = {"row": "word", "stack": "thing"}


def is_thing(thing):
    """Whether anything is a thing."""
    return has_form("thing", thing, asked_within)


def is_word(thing):
    """Whether anything is a word."""
    return has_form("word", thing, asked_within)


def is_row(thing):
    """Whether anything is a row."""
    return has_form("row", thing, asked_within)


def is_stack(thing):
    """Whether anything is a stack."""
    return has_form("stack", thing, asked_within)


def is_name(thing):
    """Whether anything is the name of a told word."""
    if not isinstance(thing, str) or not 1 <= len(thing) <= LONGEST_NAME:
        return False
    return all([letter in SMALL_LETTERS for letter in thing]) and not is_basic(thing)


def is_number(thing):
    """Whether anything is a whole number that a thing may hold."""
    return is_whole(thing) and 0 <= thing < NUMBERS


def is_text_word(text):
    """Whether a text is a word."""
    return is_basic(text) or is_shuffle(text) or is_name(text)


def asked_within(sort, part):
    """What a sort asks of the parts of a part, as has_form wants it."""
    if sort == "thing":
        return asked_of_thing(part)
    if sort == "word":
        return asked_of_word(part)
    if not isinstance(part, tuple):
        return None
    return [(SORT_OF_PARTS[sort], inner) for inner in part]


def asked_of_thing(part):
    """What must hold of the parts of a thing."""
    if not is_marked(part) or len(part) != 2:
        return None
    sort, held = part
    if sort == "number" and is_number(held):
        return []
    if sort == "row":
        return [("row", held)]
    if sort == "list":
        return [("stack", held)]
    return None


def asked_of_word(part):
    """What must hold of the parts of a word."""
    if isinstance(part, str):
        return [] if is_text_word(part) else None
    if is_marked(part) and len(part) == 2 and part[0] == "push":
        return [("thing", part[1])]
    return None


def words_in(row):
    """How many words a row has in all, with those of the rows that it pushes."""
    many = 0
    waiting = [("row", row)]
    while waiting:
        sort, held = waiting.pop()
        if sort == "row":
            many += len(held)
            waiting.extend([word[1] for word in held if not isinstance(word, str)])
        elif sort == "list":
            waiting.extend(held)
    return many
