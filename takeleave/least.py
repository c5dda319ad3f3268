"""Least rows of few shuffles that do what a shuffle does."""

from takeleave.mapbooks import MapSearch
from takeleave.maps import map_of


def least_row(few, shuffle, most):
    """The least row of few for a shuffle with the book of what fewer words do, or that there is none with a book."""
    wanted = map_of((shuffle,))
    search = MapSearch(few)
    if wanted in search.rows:
        return "least", (), None
    for length in range(most):
        book = search.map_lines()
        search.lengthen()
        if wanted in search.rows:
            return "least", search.rows[wanted], book
        search.refuse_too_many()
    return "none", search.map_lines()
