"""The kinds of the told words of a book, and papers that let them by."""

from takeleave.derivations import filled_by
from takeleave.errors import NoBook, NoKind, NoWord
from takeleave.fillings import filling_to
from takeleave.finder import found_with
from takeleave.kinds import told_form


def kinds_of(book):
    """The kinds of the told words of a book, in the told form."""
    return tuple([kind for kind, paper in found_book(book or ())])


def papers_of(book):
    """Derivations of the rows of a book, by which its kinds are let by."""
    return tuple([paper for kind, paper in found_book(book or ())])


def found_book(book):
    """The pairs of a kind and a paper of all told words of a book, in its order."""
    kinds = {name: told_form(*told) for name, told, row in book if told is not None}
    papers = {}
    for number, (name, told, row) in enumerate(book):
        if told is None:
            # Words without a told kind behind this one, and this one itself, are not among the kinds yet.
            kinds[name], papers[name] = found_or_refused(number, row, kinds)
    for number, (name, told, row) in enumerate(book):
        if told is not None:
            papers[name] = paper_of_told(number, row, kinds[name], kinds)
    return [(kinds[name], papers[name]) for name, told, row in book]


def paper_of_told(number, row, kind, kinds):
    """A derivation of the row of a told word with the kind that is told of it."""
    found, paper = found_or_refused(number, row, kinds)
    filling = filling_to(found, kind)
    if filling is None:
        raise NoBook(number, ("told",))
    return filled_by(paper, filling)


def found_or_refused(number, row, kinds):
    """The found kind and a derivation of the row of the told word with this number."""
    try:
        return found_with(row, kinds)
    except NoWord as no_word:
        raise NoBook(number, ("word", no_word.place)) from None
    except NoKind as no_kind:
        raise NoBook(number, ("kind", no_kind.places)) from None
