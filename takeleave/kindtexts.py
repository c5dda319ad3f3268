"""How a row's kind is written and read."""

from takeleave.errors import NoText
from takeleave.kindmarks import marks_of_row_kind
from takeleave.marks import CLOSINGS, OPENINGS, marks_of_text
from takeleave.opennames import is_open_rest, is_open_thing


def show_kind(take, leave):
    """The text of a row's kind."""
    return " ".join(marks_of_row_kind(take, leave))


class Level:
    """What stands between two brackets, as far as it has been read: a row's kind, or what a list is of."""

    def __init__(self, within):
        self.within = within
        self.take = None
        self.rest = ""
        self.kinds = []

    def add_rest(self, rest):
        """Read the rest of a kind of stacks, which stands ahead of its kinds."""
        if self.within == "list" or self.rest != "" or len(self.kinds) > 0:
            raise NoText("a rest may not stand here")
        self.rest = rest

    def part_sides(self):
        """Read what stands between the two sides of a row's kind."""
        if self.within == "list" or self.take is not None:
            raise NoText("sides may not be parted here")
        self.take = self.side()
        self.rest = ""
        self.kinds = []

    def side(self):
        """The kind of stacks that is read last."""
        return self.rest, tuple(self.kinds)

    def row_kind(self):
        """The row's kind that is read."""
        if self.take is None:
            raise NoText("a row's kind has two sides")
        return self.take, self.side()

    def kind(self):
        """The kind of things that is read."""
        if self.within == "row":
            take, leave = self.row_kind()
            return ("row", take, leave)
        if len(self.kinds) != 1:
            raise NoText("a list is of one kind")
        return ("list", self.kinds[0])


def read_kind(text):
    """The row's kind that anything is the text of."""
    levels = [Level("row")]
    for mark in marks_of_text(text):
        read_mark(mark, levels)
    if len(levels) != 1:
        raise NoText("a bracket is not closed")
    return levels[0].row_kind()


def read_mark(mark, levels):
    """Read one mark at the last of the levels that are not yet closed."""
    if mark in OPENINGS:
        levels.append(Level(OPENINGS[mark]))
    elif mark in CLOSINGS:
        close_level(levels, CLOSINGS[mark])
    elif mark == "--":
        levels[-1].part_sides()
    elif mark == "number":
        levels[-1].kinds.append(("number",))
    elif is_open_thing(mark):
        levels[-1].kinds.append(("open", mark))
    elif is_open_rest(mark):
        levels[-1].add_rest(mark)
    else:
        raise NoText("this mark may not stand here")


def close_level(levels, sort):
    """Close the last level as a kind of this sort, and put it behind the kinds of the level around it."""
    if len(levels) == 1 or levels[-1].within != sort:
        raise NoText("a bracket is closed that is not the last one opened")
    kind = levels.pop().kind()
    levels[-1].kinds.append(kind)
