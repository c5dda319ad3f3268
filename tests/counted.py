"""Rows, stacks and the like made by a plain counter: always the same, and nothing left to chance."""

from takeleave.texts import read_row, read_stack

# Pushes of all sorts, words that take what most of them leave, and told words.
WORDS = read_row(
    "1 plus a-aa [ plus ] do ab-ba { 2 3 } [ a- ] dip 0 [ 1 plus ] repeat f { } [ ] each [ a-aa ] if a- put "
    "[ 2 [ times ] ] join wrap part less { [ ] } g while same [ f ] abc-bca")
THINGS = read_stack("1 [ plus ] { 2 3 } 0 [ a- ] 7 [ 1 plus ] { } [ ] { [ ] } 2 [ a-aa ] [ f ]")
# How far the counter goes on each time: without a part in common with the numbers of words and things.
STRIDE = 104729


def counted(number, parts):
    """The tuple of parts with this number: first that of none, then those of one, of two, and so on."""
    made = []
    while number > 0:
        number, at = divmod(number - 1, len(parts))
        made.append(parts[at])
    return tuple(made)


def counted_rows(many, words=WORDS, stride=STRIDE):
    """So many rows of these words."""
    return [counted(at * stride, words) for at in range(many)]


def counted_stacks(many, things=THINGS, stride=STRIDE):
    """So many stacks of these things."""
    return [counted(at * stride, things) for at in range(many)]
