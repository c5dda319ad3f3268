"""Sets of places that go together, and least ones that do not."""

from takeleave.weaving import all_tied, tied, woven
from takeleave.wordkinds import told_kinds


def go_together(row, places, book=None, kinds=None):
    """Whether the words at these places of a row go together."""
    return tied(woven(row, told_kinds(book, kinds)), places) is not None


def least_places(row, book=None, kinds=None):
    """A least set of places of a row that do not go together, or None where all do."""
    weave = woven(row, told_kinds(book, kinds))
    return None if all_tied(weave) is not None else least_clash(weave)


def least_clash(weave):
    """The least set of places of a weave all words of which do not go together."""
    kept = sorted(weave.ties)
    for place in sorted(weave.ties, reverse=True):
        others = [other for other in kept if other != place]
        if tied(weave, others) is None:
            kept = others
    return tuple(kept)
