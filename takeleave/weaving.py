"""Rows woven: a web with a knot for each kind of a derivation, and the ties that each word asks for."""

from takeleave.webkinds import stack_knot
from takeleave.webs import Web
from takeleave.wordkinds import kind_of_word, refuse_no_word


class Piece:
    """A row or a thing within a row that is woven.

    place is that of what stands in it less the last number, asker that of the word that pushes it, None of the row
    itself. knot is that of its kind; stacks has the knots between the words of a row, inner the numbers of the
    pieces that its words push (None of a text), or of a list's things.
    """

    def __init__(self, thing, place, asker, knot):
        self.mark, self.held = thing
        self.place = place
        self.asker = asker
        self.knot = knot
        self.stacks = []
        self.inner = []


class Weave:
    """A row woven: its pieces, each ahead of those in it, a web, and the ties that are asked for, by their places."""

    def __init__(self, row, told):
        self.told = told
        self.web = Web()
        self.ties = {}
        self.pieces = []
        self.add_piece(("row", row), (), None, self.web.add_knot())
        at = 0
        while at < len(self.pieces):
            self.weave_piece(self.pieces[at])
            at += 1

    def add_piece(self, thing, place, asker, knot):
        """Put a piece that is still to be woven behind the others, and tell its number."""
        self.pieces.append(Piece(thing, place, asker, knot))
        return len(self.pieces) - 1

    def ask(self, place, one, other):
        """Note that the word at a place asks for a tie."""
        self.ties.setdefault(place, []).append((one, other))

    def weave_piece(self, piece):
        """Make the knots in a piece, and note what its pushing word asks of its kind."""
        if piece.mark == "row":
            form = self.woven_row(piece)
        elif piece.mark == "list":
            form = self.woven_list(piece)
        else:
            form = ("number",)
        if piece.asker is not None:
            self.ask(piece.asker, piece.knot, self.web.add_knot(form))

    def woven_row(self, piece):
        """Make the knots in a row, and tell the form of its kind."""
        piece.stacks = [self.web.add_knot() for at in range(len(piece.held) + 1)]
        for at, word in enumerate(piece.held):
            place = piece.place + (at,)
            ahead, behind = piece.stacks[at], piece.stacks[at + 1]
            if isinstance(word, str):
                self.ask_of_text(word, place, ahead, behind)
                piece.inner.append(None)
            else:
                kind = self.web.add_knot()
                self.ask(place, behind, self.web.add_knot(("on", ahead, kind)))
                piece.inner.append(self.add_piece(word[1], place, place, kind))
        return ("row", piece.stacks[0], piece.stacks[-1])

    def ask_of_text(self, text, place, ahead, behind):
        """Note what a text asks of the kinds of stacks ahead of it and behind it; its names are its own."""
        take, leave = kind_of_word(text, self.told)
        names = {}
        self.ask(place, ahead, stack_knot(self.web, take, names))
        self.ask(place, behind, stack_knot(self.web, leave, names))

    def woven_list(self, piece):
        """Make the knots in a list, all things of which are of one kind, and tell the form of its kind."""
        kind = self.web.add_knot()
        for at, thing in enumerate(piece.held):
            piece.inner.append(self.add_piece(thing, piece.place + (at,), piece.asker, kind))
        return ("list", kind)


def woven(row, told):
    """A row woven, where told has the kinds of told words; refused is a text that is none."""
    refuse_no_word(row, told)
    return Weave(row, told)


def tied(weave, places):
    """The web of a weave with the ties of the words at these places, or None where they do not go together."""
    web = weave.web.copied()
    for place in places:
        for one, other in weave.ties[place]:
            if not web.tie(one, other):
                return None
    return None if web.has_ring() else web


def all_tied(weave):
    """The web of a weave with the ties of all its words, or None where they do not go together."""
    return tied(weave, list(weave.ties))
