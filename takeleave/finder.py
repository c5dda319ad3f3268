"""The most open kind of a row, with a derivation that has it."""

from takeleave.clashes import least_clash
from takeleave.derivations import kind_by
from takeleave.errors import NoKind
from takeleave.weaving import all_tied, woven
from takeleave.webkinds import no_names, told_parts
from takeleave.wordkinds import told_kinds


def found_kind(row, book=None, kinds=None):
    """The found kind of a row, in the told form, and a derivation that has just it."""
    return found_with(row, told_kinds(book, kinds))


def found_with(row, told):
    """The found kind of a row and a derivation, where told has the kinds of told words."""
    weave = woven(row, told)
    web = all_tied(weave)
    if web is None:
        raise NoKind(least_clash(weave))
    derivation = derivation_of(weave, web)
    return kind_by(derivation), derivation


def derivation_of(weave, web):
    """The most open derivation of a row woven, its kind in the told form, by the web with all ties."""
    ends = weave.pieces[0].stacks
    # The ends are asked first: so their names are those of the told form.
    knots = [ends[0], ends[-1]] + [knot for piece in weave.pieces for knot in piece.stacks]
    told = told_parts(web, [("stack", knot) for knot in knots], no_names())
    # Each piece stands ahead of those in it: from the last to the first, what stands within is always made.
    made = {None: None}
    for number, piece in reversed(list(enumerate(weave.pieces))):
        inner = tuple([made[within] for within in piece.inner])
        made[number] = inner_made(piece, inner, [told[web.root(knot)] for knot in piece.stacks])
    return made[0]


def inner_made(piece, inner, stacks):
    """What stands in a derivation for a piece, where what stands within it is made."""
    if piece.mark == "row":
        return tuple(stacks), inner
    return inner if piece.mark == "list" else None
