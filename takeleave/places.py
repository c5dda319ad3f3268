"""Places of words in a row, and in the rows and lists that it pushes."""


def places_of(row):
    """The places of all words of a row, in order."""
    return tuple([place for place, word in placed_words(row)])


def placed_words(row):
    """The pairs of a place and the word there, in order."""
    placed = []
    waiting = placed_within((), ("row", row))
    while waiting:
        place, piece = waiting.pop()
        if isinstance(piece, str) or piece[0] == "push":
            placed.append((place, piece))
        waiting.extend(placed_within(place, piece))
    return placed


def placed_within(place, piece):
    """The words or things in a word or a thing, each with its place, the last one first."""
    if isinstance(piece, str):
        return []
    sort, held = pushed_or_itself(piece)
    if sort == "number":
        return []
    return [(place + (at,), held[at]) for at in reversed(range(len(held)))]


def pushed_or_itself(piece):
    """The thing that a word pushes; of a thing this one."""
    return piece[1] if piece[0] == "push" else piece


def word_at(row, place):
    """The word at a place of a row."""
    piece = ("row", row)
    for number in place:
        piece = pushed_or_itself(piece)[1][number]
    return piece
