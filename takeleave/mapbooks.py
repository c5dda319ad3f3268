"""Books of maps: all that rows of few shuffles do, each with a row as short as any."""

from takeleave.errors import TooMany
from takeleave.forms import is_whole
from takeleave.maps import map_of

MOST_MAPS = 1200


class MapSearch:
    """The maps of rows of few shuffles, found length by length, each with the first of its shortest rows."""

    def __init__(self, few):
        self.few = few
        self.rows = {(0, ()): ()}
        # The rows of the greatest length so far that have new maps, the first by the numbers of their words first.
        self.longest = [()]

    def lengthen(self):
        """Find the maps of rows that are one word longer."""
        longer = [row + (word,) for row in self.longest for word in self.few]
        self.longest = []
        for row in longer:
            done = map_of(row)
            if done not in self.rows:
                self.rows[done] = row
                self.longest.append(row)

    def refuse_too_many(self):
        """Refuse more maps than a book may have."""
        if len(self.rows) > MOST_MAPS:
            raise TooMany(len(self.rows), MOST_MAPS)

    def map_lines(self):
        """The book of the maps that are found so far."""
        return tuple(self.rows.items())


def map_book(few, most):
    """A book of maps for few shuffles and rows of at most so many words."""
    search = MapSearch(few)
    for length in range(most):
        search.lengthen()
        search.refuse_too_many()
    return search.map_lines()


def map_book_holds(few, most, book):
    """Whether anything is a book of maps for few shuffles and rows of at most so many words."""
    if not isinstance(book, tuple) or not all([is_line(line, few, most) for line in book]):
        return False
    rows = {done: row for done, row in book}
    if len(rows) != len(book) or rows.get((0, ())) != ():
        return False
    return all([is_closed(rows, row, word) for row in rows.values() if len(row) < most for word in few])


def is_line(thing, few, most):
    """Whether anything is a map and a row of at most so many words of few that has it as its least map."""
    if not isinstance(thing, tuple) or len(thing) != 2:
        return False
    done, row = thing
    if not isinstance(row, tuple) or len(row) > most:
        return False
    if not all([isinstance(word, str) and word in few for word in row]):
        return False
    return is_map_form(done) and done == map_of(row)


def is_map_form(thing):
    """Whether anything is a number and a tuple of numbers, no truths among them."""
    if not isinstance(thing, tuple) or len(thing) != 2:
        return False
    n, picks = thing
    return is_whole(n) and isinstance(picks, tuple) and all([is_whole(pick) for pick in picks])


def is_closed(rows, row, word):
    """Whether what a row and a word behind it do is there, with a row that is not longer."""
    longer = row + (word,)
    found = rows.get(map_of(longer))
    return found is not None and len(found) <= len(longer)
