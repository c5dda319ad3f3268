"""Shuffles: texts that name the things taken and the things left."""

from takeleave.errors import NoShuffle

LETTERS = "abcdefgh"
MOST_LEFT = 12


def is_shuffle(thing):
    """Whether anything is a shuffle."""
    if not isinstance(thing, str):
        return False
    taken, stroke, left = thing.partition("-")
    if stroke == "" or not LETTERS.startswith(taken):
        return False
    return len(left) <= MOST_LEFT and all([letter in taken for letter in left])


def is_shuffle_row(row):
    """Whether all words of a row are shuffles."""
    return all([is_shuffle(word) for word in row])


def taken_left(shuffle):
    """How many things a shuffle takes, and the numbers of those that it leaves, the lowest thing being 0."""
    if not is_shuffle(shuffle):
        raise NoShuffle("this is no shuffle")
    taken, left = shuffle.split("-")
    return len(taken), tuple([LETTERS.index(letter) for letter in left])


def shuffle_of(n, picks):
    """The shuffle that takes n things and leaves those with the numbers of picks."""
    if not 0 <= n <= len(LETTERS) or len(picks) > MOST_LEFT:
        raise NoShuffle("a shuffle takes at most eight things and leaves at most twelve")
    if not all([0 <= pick < n for pick in picks]):
        raise NoShuffle("a shuffle leaves only what it takes")
    return LETTERS[:n] + "-" + "".join([LETTERS[pick] for pick in picks])
