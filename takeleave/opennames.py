"""The names of open things and open rests."""

from takeleave.words import SMALL_LETTERS, is_figures

GREAT_LETTERS = "ABCDEFGHIJKLMNOPQRSTUVWXYZ"


def is_open_thing(thing):
    """Whether anything is the name of an open thing."""
    return is_lettered(thing, SMALL_LETTERS)


def is_open_rest(thing):
    """Whether anything is the name of an open rest."""
    return is_lettered(thing, GREAT_LETTERS)


def is_open_name(thing):
    """Whether anything is the name of an open thing or of an open rest."""
    return is_open_thing(thing) or is_open_rest(thing)


def is_lettered(thing, letters):
    """Whether anything is one of these letters, perhaps with figures behind, the first of them 1 to 9."""
    if not isinstance(thing, str) or thing == "" or thing[0] not in letters:
        return False
    figures = thing[1:]
    return figures == "" or (is_figures(figures) and figures != "0")


def lettered(number, letters):
    """The name with this number, from 0, of those that the letters give: all alone, then all with 1 behind."""
    rounds = number // len(letters)
    letter = letters[number % len(letters)]
    return letter if rounds == 0 else letter + str(rounds)
