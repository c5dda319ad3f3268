"""The code of a row, made by going through it with things that are known and with registers.

What a word takes and leaves is an entry: ("known", thing), or ("cell", number) of a register. While a code is made it
isn't yet known how many things it takes: so registers are numbered from the first one that an op makes, and things
from beneath below 0, the top first.
"""

from takeleave.books import rows_told
from takeleave.errors import NoCode
from takeleave.shuffles import is_shuffle, taken_left
from takeleave.sizes import is_bounded
from takeleave.steps import effect_of_basic
from takeleave.words import SORTS_TAKEN, is_basic

MOST_WORDS = 1000
NEVER_CODED = ("while", "repeat", "part", "each")
DOING = ("do", "dip", "if")


class Track:
    """What is gone through for one code: entries, the top last, and what is still to be done, the next last.

    Besides words there are marks to be done: ("back", entry) for a thing that dip puts back, ("behind", name) for the
    end of a told word's row.
    """

    def __init__(self, row):
        self.todo = list(row[::-1])
        self.entries = []
        self.looked = 0
        self.ops = []
        self.cells_made = 0

    def put_ahead(self, row):
        """Put words ahead of what is still to be done."""
        self.todo.extend(row[::-1])

    def take_entries(self, many):
        """Take so many entries from the top; things from beneath are looked at where there are too few."""
        while len(self.entries) < many:
            self.looked += 1
            self.entries.insert(0, ("cell", -self.looked))
        top = self.entries[len(self.entries) - many:]
        del self.entries[len(self.entries) - many:]
        return top

    def cell_of(self, entry):
        """The cell of an entry; a known thing is pushed into a new one."""
        mark, held = entry
        if mark == "cell":
            return held
        self.ops.append(("push", held))
        self.cells_made += 1
        return self.cells_made - 1

    def cells_of(self, entries):
        """The cells of several entries."""
        return tuple([self.cell_of(entry) for entry in entries])

    def leave_made(self, op, many):
        """Do an op that makes so many things, and leave them."""
        self.ops.append(op)
        self.entries.extend([("cell", self.cells_made + at) for at in range(many)])
        self.cells_made += many

    def code_taking(self, takes):
        """The code of the track that takes so many things, at least as many as were looked at."""
        # What lies lower than what was looked at is left as it lay.
        beneath = [("cell", -deep) for deep in range(takes, self.looked, -1)]
        outs = self.cells_of(beneath + self.entries)
        return takes, tuple([moved_op(op, takes) for op in self.ops]), moved(outs, takes)


def moved(cells, by):
    """Cells with numbers so much greater."""
    return tuple([cell + by for cell in cells])


def moved_op(op, by):
    """An op with the numbers of its cells so much greater."""
    if op[0] == "push":
        return op
    if op[0] == "if":
        mark, cell, args, one, other = op
        return mark, cell + by, moved(args, by), one, other
    cells = moved(op[1:], by)
    return (op[0], *cells)


class Choice:
    """An if of a number that is not known: its cell, the row of the other side, and the tracks of ended sides."""

    def __init__(self, cell, other):
        self.cell = cell
        self.other = other
        self.ended = []


class Going:
    """How far a row is gone through.

    tracks has that of the row and those of the sides of choices, one in the other; place is that of the word of the
    row itself that was come to last; within has the told words whose rows are being gone through.
    """

    def __init__(self, book):
        self.told_rows = rows_told(book)
        self.tracks = [Track(())]
        self.choices = []
        self.place = ()
        self.within = {}
        self.many = 0


def code_of(row, book=None):
    """The code of a row."""
    going = Going(book)
    track = going.tracks[0]
    for number, word in enumerate(row):
        going.place = (number,)
        track.todo.append(word)
        go_on(going)
    return track.code_taking(track.looked)


def go_on(going):
    """Go through all that is still to be done."""
    while len(going.tracks) > 1 or len(going.tracks[0].todo) > 0:
        track = going.tracks[-1]
        if len(track.todo) == 0:
            end_side(going)
            continue
        task = track.todo.pop()
        if isinstance(task, str):
            count_word(going)
            go_through(going, track, task)
        elif task[0] == "push":
            count_word(going)
            track.entries.append(("known", task[1]))
        elif task[0] == "back":
            track.entries.append(task[1])
        else:
            del going.within[task[1]]


def count_word(going):
    """Count a word that is gone through, and refuse too many."""
    going.many += 1
    if going.many > MOST_WORDS:
        raise NoCode(going.place)


def go_through(going, track, text):
    """Go through a text."""
    if is_shuffle(text):
        n, picks = taken_left(text)
        top = track.take_entries(n)
        track.entries.extend([top[pick] for pick in picks])
    elif not is_basic(text):
        go_into(going, track, text)
    elif text in NEVER_CODED:
        raise NoCode(going.place)
    else:
        go_through_basic(going, track, text)


def go_into(going, track, name):
    """Put the row of a told word in its place."""
    if name not in going.told_rows or name in going.within:
        raise NoCode(going.place)
    going.within[name] = True
    track.todo.append(("behind", name))
    track.put_ahead(going.told_rows[name])


def go_through_basic(going, track, word):
    """Go through a basic word that may have a code."""
    sorts = SORTS_TAKEN[word]
    top = track.take_entries(len(sorts))
    if not all([may_be_taken(word, sort, entry) for sort, entry in zip(sorts, top)]):
        raise NoCode(going.place)
    if word in DOING:
        put_rows_ahead(going, track, word, top)
    elif all([mark == "known" for mark, held in top]):
        taken, left, ahead = effect_of_basic(word, [thing for mark, thing in top])
        if not is_bounded(left[0]):
            raise NoCode(going.place)
        track.entries.append(("known", left[0]))
    else:
        cells = track.cells_of(top)
        track.leave_made((word, *cells), 1)


def may_be_taken(word, sort, entry):
    """Whether an entry may be what a word takes: a known thing as it asks, and a known row where it is to be done."""
    mark, held = entry
    if mark == "known":
        return sort == "any" or held[0] == sort
    return not (word in DOING and sort == "row")


def put_rows_ahead(going, track, word, top):
    """Put ahead the known rows that do, dip or if does, or begin with both sides of a choice."""
    if word == "do":
        track.put_ahead(top[0][1][1])
    elif word == "dip":
        track.todo.append(("back", top[0]))
        track.put_ahead(top[1][1][1])
    else:
        (mark, held), (one_mark, one), (other_mark, other) = top
        if mark == "known":
            track.put_ahead(one[1] if held[1] != 0 else other[1])
        else:
            going.choices.append(Choice(held, other[1]))
            going.tracks.append(Track(one[1]))


def end_side(going):
    """End the track of a side of a choice, and go on with the other side, or behind both."""
    choice = going.choices[-1]
    choice.ended.append(going.tracks.pop())
    if len(choice.ended) == 1:
        going.tracks.append(Track(choice.other))
        return
    going.choices.pop()
    takes = max([side.looked for side in choice.ended])
    one, other = [side.code_taking(takes) for side in choice.ended]
    many = len(one[2])
    if many != len(other[2]):
        raise NoCode(going.place)
    track = going.tracks[-1]
    args = track.cells_of(track.take_entries(takes))
    track.leave_made(("if", choice.cell, args, one, other), many)
