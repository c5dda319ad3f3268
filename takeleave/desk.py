"""A desk that keeps a book, and answers rows of text."""

from takeleave.alike import alike
from takeleave.bookkinds import kinds_of
from takeleave.errors import NoRow, NoText, Twice
from takeleave.finder import found_kind
from takeleave.kindtexts import read_kind, show_kind
from takeleave.runs import run
from takeleave.shorter import shorter
from takeleave.texts import read_row, read_stack, show_row, show_stack
from takeleave.things import is_name
from takeleave.words import is_figures

MOST_FIGURES = 4
# What stands between the parts of a row; a part without signs leaves two blanks, or one at the end.
BETWEEN = " : "


class Desk:
    """A book of told words, with their kinds."""

    def __init__(self):
        self.book = ()
        self.kinds = ()

    def say(self, text):
        """The answer to anything that is a row for a desk."""
        asked, parts = read_said(text)
        if asked == "tell":
            return tell(self, parts)
        if asked == "kind":
            return kind_answer(self, parts)
        if asked == "run":
            return run_answer(self, parts)
        if asked == "short":
            return show_row(shorter(parts, self.book)[0])
        if asked == "alike":
            return alike_answer(self, parts)
        return show_book(self)


def tell(desk, told_word):
    """Put a told word behind those of a desk, and answer its kind."""
    name = told_word[0]
    if name in [told[0] for told in desk.book]:
        raise Twice("this name is told already")
    book = desk.book + (told_word,)
    # Refused ahead of any change.
    kinds = kinds_of(book)
    desk.book, desk.kinds = book, kinds
    take, leave = kinds[-1]
    return show_kind(take, leave)


def kind_answer(desk, row):
    """The found kind of a row."""
    (take, leave), derivation = found_kind(row, desk.book, desk.kinds)
    return show_kind(take, leave)


def run_answer(desk, parts):
    """How a row goes from a stack: what came of it, how many steps, and the stack."""
    most, stack, row = parts
    ending, steps, (end, todo) = run(row, stack, most, desk.book)
    return " ".join([ending, str(steps), show_stack(end)])


def alike_answer(desk, rows):
    """Whether two rows are alike, or parted, with the stack, or open."""
    one, other = rows
    told = alike(one, other, desk.book)
    if told[0] == "parted":
        return "parted " + show_stack(told[1])
    return told[0]


def show_book(desk):
    """The told words of a desk, a line each."""
    return "\n".join([
        name + " " + show_kind(*kind) + BETWEEN + show_row(row)
        for (name, told, row), kind in zip(desk.book, desk.kinds)
    ])


def read_said(text):
    """What anything that is a row for a desk asks, and its parts as they are read."""
    if not isinstance(text, str):
        raise NoRow("this is no text")
    head, *parts = text.split(BETWEEN)
    asked, blank, rest = head.partition(" ")
    try:
        return asked, read_asked(asked, blank + rest, parts)
    except NoText:
        raise NoRow("a row, a stack or a kind is not written so") from None


def read_asked(asked, rest, parts):
    """The parts of a row for a desk, where rest is what stands ahead of the first colon behind what is asked."""
    if asked == "tell" and len(parts) == 1:
        return read_told(rest, read_row(parts[0]))
    if asked == "run" and len(parts) == 2:
        return read_most(rest), read_stack(parts[0]), read_row(parts[1])
    if rest != "":
        raise NoRow("nothing may stand here")
    if asked == "alike" and len(parts) == 2:
        return read_row(parts[0]), read_row(parts[1])
    if asked in ("kind", "short") and len(parts) == 1:
        return read_row(parts[0])
    if asked == "show" and len(parts) == 0:
        return ()
    raise NoRow("a desk has no such row")


def read_told(rest, row):
    """The told word with a name and perhaps a kind, a blank ahead of each."""
    name, parted, kind = rest[1:].partition(" ")
    if not is_name(name):
        raise NoRow("this is no name")
    told = None if parted == "" else read_kind(kind)
    return name, told, row


def read_most(rest):
    """The number of steps, a blank ahead of it."""
    figures = rest[1:]
    if not is_figures(figures) or len(figures) > MOST_FIGURES:
        raise NoRow("this is no number of steps")
    return int(figures)
