"""The basic words and what each takes, and the signs that words are written with."""

SMALL_LETTERS = "abcdefghijklmnopqrstuvwxyz"
FIGURES = "0123456789"

# A thing of any sort may stand where a word asks for this one.
ANY = "any"

# The lowest thing first, as in the stack.
SORTS_TAKEN = {
    "plus": ("number", "number"),
    "minus": ("number", "number"),
    "times": ("number", "number"),
    "less": ("number", "number"),
    "same": ("number", "number"),
    "do": ("row",),
    "dip": (ANY, "row"),
    "if": ("number", "row", "row"),
    "while": ("row", "row"),
    "repeat": ("number", "row"),
    "join": ("row", "row"),
    "wrap": (ANY,),
    "put": ("list", ANY),
    "part": ("list", "row", "row"),
    "each": ("list", "row"),
}


def is_basic(text):
    """Whether a text is a basic word."""
    return text in SORTS_TAKEN


def is_figures(text):
    """Whether a text is a number as it is written: figures, no nought ahead but in 0 itself."""
    if text == "" or not all([sign in FIGURES for sign in text]):
        return False
    return text == "0" or text[0] != "0"
