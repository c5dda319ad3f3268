"""The basic words and what each takes, and the signs that words are written with."""

SMALL_LETTERS = "abcdefghijklmnopqrstuvwxyz"
FIGURES = "0123456789"

# The sorts of things, the lowest first, as in the stack; "any" where a thing of each sort will do.
SORTS_TAKEN = {
    "plus": ("number", "number"),
    "minus": ("number", "number"),
    "times": ("number", "number"),
    "less": ("number", "number"),
    "same": ("number", "number"),
    "do": ("row",),
    "dip": ("any", "row"),
    "if": ("number", "row", "row"),
    "while": ("row", "row"),
    "repeat": ("number", "row"),
    "join": ("row", "row"),
    "wrap": ("any",),
    "put": ("list", "any"),
    "part": ("list", "row", "row"),
    "each": ("list", "row"),
}


def is_basic(text):
    """Whether a text is a basic word."""
    return text in SORTS_TAKEN


def is_figures(text):
    """Whether a text is a number as it is written: figures, no nought ahead but in 0 itself."""
    if text == "" or not all([sign in FIGURES for sign in text]):
        return False
    return text == "0" or text[0] != "0"
