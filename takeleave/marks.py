"""Texts as marks that are parted by one blank."""

from takeleave.errors import NoText


def marks_of_text(text):
    """The marks of anything that is a text of marks with just one blank between any two."""
    if not isinstance(text, str):
        raise NoText("this is no text")
    if text == "":
        return []
    marks = text.split(" ")
    if "" in marks:
        raise NoText("marks are parted by one blank, and none stands at an end")
    return marks
