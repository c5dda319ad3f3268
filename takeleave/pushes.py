"""Words that push things."""


def push_row(row):
    """The word that pushes a row."""
    return ("push", ("row", row))


def pushes_of(stack):
    """The words that push the things of a stack, the lowest first."""
    return tuple([("push", thing) for thing in stack])


def is_push(word):
    """Whether a word pushes a thing."""
    return not isinstance(word, str)


def is_row_push(word):
    """Whether a word pushes a row."""
    return is_push(word) and word[1][0] == "row"


def row_pushed(word):
    """The row that a word pushes."""
    return word[1][1]
