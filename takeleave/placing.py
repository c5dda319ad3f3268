"""Told words put in place: the row of a told word stands for its name."""

from takeleave.books import rows_told
from takeleave.marks import marks_of_text
from takeleave.places import placed_words
from takeleave.texts import read_row, read_stack, show_row, show_stack


def comes_to_itself(name, book):
    """Whether a told word comes to itself through the rows of a book."""
    rows = rows_told(book)
    seen = {}
    waiting = [name]
    while waiting:
        row = rows.get(waiting.pop(), ())
        for text in texts_in(row):
            if text == name:
                return True
            if text not in seen:
                seen[text] = True
                waiting.append(text)
    return False


def texts_in(row):
    """The texts of a row, and of pushed rows and lists in it."""
    return [word for place, word in placed_words(row) if isinstance(word, str)]


def in_place(row, name, book):
    """A row with the row of a told word in the place of its name everywhere."""
    return read_row(text_in_place(show_row(row), name, book))


def stack_in_place(stack, name, book):
    """A stack with the row of a told word in the place of its name everywhere."""
    return read_stack(text_in_place(show_stack(stack), name, book))


def text_in_place(text, name, book):
    """The text of a row or a stack with that of a told word's row in the place of its name."""
    # A name stands in a text as a mark of its own, and nothing else is written like one.
    told = marks_of_text(show_row(rows_told(book).get(name, (name,))))
    marks = []
    for mark in marks_of_text(text):
        marks.extend(told if mark == name else [mark])
    return " ".join(marks)
