"""Texts as marks that are parted by one blank."""

from takeleave.errors import NoText

# What each bracket opens or closes.
OPENINGS = {"[": "row", "{": "list"}
CLOSINGS = {"]": "row", "}": "list"}


def marks_of_text(text):
    """The marks between the blanks of anything that is a text.

    A blank at an end, and two together, give a mark without signs, which stands for nothing and is refused as such.
    """
    if not isinstance(text, str):
        raise NoText("this is no text")
    return [] if text == "" else text.split(" ")
