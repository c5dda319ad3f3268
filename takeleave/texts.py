"""How rows and stacks are written and read."""

from takeleave.errors import NoText
from takeleave.marks import CLOSINGS, OPENINGS, marks_of_text
from takeleave.things import is_text_word
from takeleave.words import is_figures

# Those of the greatest number, 10 ** 12 - 1.
MOST_FIGURES = 12


def show_row(row):
    """The text of a row."""
    return written(pieces_of("row", row))


def show_stack(stack):
    """The text of a stack."""
    return written(pieces_of("list", stack))


def written(pieces):
    """The text of words and things one behind the other."""
    marks = []
    waiting = pieces[::-1]
    while waiting:
        piece = waiting.pop()
        if isinstance(piece, str):
            marks.append(piece)
        elif piece[0] == "number":
            marks.append(str(piece[1]))
        else:
            waiting.extend(bracketed(piece)[::-1])
    return " ".join(marks)


def pieces_of(sort, parts):
    """The texts and things of a row's words, or of a list's things."""
    if sort == "list":
        return list(parts)
    return [word if isinstance(word, str) else word[1] for word in parts]


def bracketed(thing):
    """The texts and things of a row or a list as a thing, with its brackets."""
    sort, parts = thing
    if sort == "row":
        return ["["] + pieces_of(sort, parts) + ["]"]
    return ["{"] + pieces_of(sort, parts) + ["}"]


def read_row(text):
    """The row that anything is the text of."""
    return read_parts("row", text)


def read_stack(text):
    """The stack that anything is the text of."""
    return read_parts("list", text)


def read_parts(sort, text):
    """The words of a row, or the things of a list, that are written without brackets around them."""
    # Each level is what was opened and its parts so far; the last one is not yet closed.
    levels = [(sort, [])]
    for mark in marks_of_text(text):
        if mark in OPENINGS:
            levels.append((OPENINGS[mark], []))
        elif mark in CLOSINGS:
            close_level(levels, CLOSINGS[mark])
        elif is_figures(mark):
            add_thing(levels[-1], ("number", read_number(mark)))
        elif levels[-1][0] == "row" and is_text_word(mark):
            levels[-1][1].append(mark)
        else:
            raise NoText("this mark may not stand here")
    if len(levels) != 1:
        raise NoText("a bracket is not closed")
    return tuple(levels[0][1])


def close_level(levels, sort):
    """Close the last level as a thing of this sort, and put it behind the parts of the level around it."""
    if len(levels) == 1 or levels[-1][0] != sort:
        raise NoText("a bracket is closed that is not the last one opened")
    parts = levels.pop()[1]
    add_thing(levels[-1], (sort, tuple(parts)))


def add_thing(level, thing):
    """Put a thing behind the parts of a level."""
    sort, parts = level
    parts.append(thing if sort == "list" else ("push", thing))


def read_number(figures):
    """The number that is written by these figures."""
    # Counted ahead of int, which refuses very long figures in its own way.
    if len(figures) > MOST_FIGURES:
        raise NoText("this number is too great")
    return int(figures)
