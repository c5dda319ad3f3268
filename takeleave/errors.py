"""The refusals: each is a TakeError, and none stands under another one."""


class TakeError(ValueError):
    """What all refusals of the package are."""


class NoText(TakeError):
    """A text that is not written as a row, a stack or a kind."""


class NoStep(TakeError):
    """A step that cannot be done."""


class NoTurn(TakeError):
    """A turn that no rule allows."""


class NoShuffle(TakeError):
    """A word that is no shuffle, or one with too many letters."""


class NoRow(TakeError):
    """A row that the desk does not know."""


class Twice(TakeError):
    """A name that is told already."""


class NoWord(TakeError):
    """A text that is no word, at a place."""

    def __init__(self, place):
        super().__init__("a text that is no word")
        self.place = place


class NoKind(TakeError):
    """A row without a kind, with places that do not go together."""

    def __init__(self, places):
        super().__init__("words that do not go together")
        self.places = places


class NoBook(TakeError):
    """A book with a told word that is refused, by its number and what is wrong."""

    def __init__(self, number, what):
        super().__init__("a told word that is refused")
        self.number = number
        self.what = what


class TooMany(TakeError):
    """More than may be counted: how many there are, and how many there may be."""

    def __init__(self, many, most):
        super().__init__("more than there may be")
        self.many = many
        self.most = most


class NoCode(TakeError):
    """A row without a code, with the place of the word that has none."""

    def __init__(self, place):
        super().__init__("a word without a code")
        self.place = place
