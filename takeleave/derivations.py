"""Derivations: kinds of stacks between the words of a row, and the small checker that lets them by."""

from takeleave.fillings import filling_to, same_kind
from takeleave.forms import has_form
from takeleave.kindfilling import filled_part
from takeleave.kindmarks import marks_of, marks_of_row_kind
from takeleave.kinds import is_row_kind, is_stack_kind
from takeleave.wordkinds import has_kind, kind_of_word, told_kinds


def derives(row, derivation, book=None, kinds=None):
    """Whether anything is a derivation of a row that is let by."""
    told = told_kinds(book, kinds)
    return has_form("row", (row, derivation, None), lambda sort, part: asked_of_part(sort, part, told))


def asked_of_part(sort, part, told):
    """What must hold of the parts of a derivation, as has_form wants it, where told has the kinds of told words."""
    if sort == "row":
        row, derivation, kind = part
        return asked_of_derivation(row, derivation, kind, told)
    thing, kind, inner = part
    return asked_of_inner(thing, kind, inner)


def asked_of_derivation(row, derivation, kind, told):
    """What must hold within the derivation of a row, the ends of which make the kind, if one is handed in."""
    if not is_derivation_form(row, derivation):
        return None
    stacks, inner = derivation
    if kind is not None and not is_same("kind", kind, ("row", stacks[0], stacks[-1])):
        return None
    asked = []
    for word, ahead, behind, within in zip(row, stacks, stacks[1:], inner):
        if isinstance(word, str):
            if within is not None or not is_let_by(word, ahead, behind, told):
                return None
        elif not is_left_on(ahead, behind):
            return None
        else:
            asked.append(("thing", (word[1], behind[1][-1], within)))
    return asked


def asked_of_inner(thing, kind, inner):
    """What must hold so that a thing is of a kind by its inner derivations."""
    sort, held = thing
    if kind[0] != sort:
        return None
    if sort == "number":
        return [] if inner is None else None
    if sort == "row":
        return [("row", (held, inner, kind))]
    if not isinstance(inner, tuple) or len(inner) != len(held):
        return None
    return [("thing", (each, kind[1], within)) for each, within in zip(held, inner)]


def is_derivation_form(row, thing):
    """Whether anything has as many kinds of stacks and inner parts as a derivation of a row has."""
    if not isinstance(thing, tuple) or len(thing) != 2:
        return False
    stacks, inner = thing
    if not isinstance(stacks, tuple) or not isinstance(inner, tuple):
        return False
    if len(stacks) != len(row) + 1 or len(inner) != len(row):
        return False
    return all([is_stack_kind(stack) for stack in stacks])


def is_let_by(text, ahead, behind, told):
    """Whether a text may stand between two kinds of stacks."""
    return has_kind(text, told) and filling_to(kind_of_word(text, told), (ahead, behind)) is not None


def is_left_on(ahead, behind):
    """Whether a kind of stacks is another one with one kind more on top."""
    rest, kinds = behind
    return len(kinds) > 0 and is_same("stack", ahead, (rest, kinds[:-1]))


def is_same(sort, one, other):
    """Whether two kinds of things, or of stacks, are the same, names too."""
    # By their marks: tuples nested very deep cannot be compared by ==.
    return marks_of(sort, one) == marks_of(sort, other)


def kind_by(derivation):
    """The kind that a derivation has."""
    stacks = derivation[0]
    return stacks[0], stacks[-1]


def filled_by(derivation, filling):
    """A derivation with all its kinds filled by a filling."""
    table = dict(filling)
    # What is still to be done, the next one last, and what has been made so far, the newest last.
    waiting = [("begin", derivation)]
    made = []
    while waiting:
        task, piece = waiting.pop()
        if task == "end":
            stacks, many = piece
            inner = tuple(made[len(made) - many:])
            del made[len(made) - many:]
            made.append(inner if stacks is None else (stacks, inner))
        elif piece is None:
            made.append(None)
        else:
            stacks, inner = filled_stacks(piece, table)
            waiting.append(("end", (stacks, len(inner))))
            waiting.extend([("begin", within) for within in inner[::-1]])
    return made[0]


def filled_stacks(piece, table):
    """The filled kinds of stacks of a derivation, None of a list's tuple, and what stands within, not yet filled."""
    if not is_inner_derivation(piece):
        return None, piece
    stacks, inner = piece
    return tuple([filled_part("stack", stack, table) for stack in stacks]), inner


def is_inner_derivation(piece):
    """Whether a tuple that stands within a derivation is a derivation itself, and not a list's tuple."""
    if len(piece) != 2 or not isinstance(piece[0], tuple) or len(piece[0]) == 0:
        return False
    return all([is_stack_kind(stack) for stack in piece[0]])


def book_derives(book, kinds, papers):
    """Whether anything is the kinds of a book, let by, by anything that is papers."""
    words = book or ()
    if not isinstance(kinds, tuple) or not isinstance(papers, tuple):
        return False
    if len(kinds) != len(words) or len(papers) != len(words) or not all([is_row_kind(kind) for kind in kinds]):
        return False
    return all([is_told_by(word, kind, paper, book, kinds) for word, kind, paper in zip(words, kinds, papers)])


def is_told_by(word, kind, paper, book, kinds):
    """Whether a told word has a kind by a paper."""
    name, told, row = word
    if told is not None and not same_kind(told, kind):
        return False
    return derives(row, paper, book, kinds) and is_same_row_kind(kind_by(paper), kind)


def is_same_row_kind(one, other):
    """Whether two rows' kinds are the same, names too."""
    return marks_of_row_kind(*one) == marks_of_row_kind(*other)
