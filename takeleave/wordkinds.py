"""The kinds of words, those of told words among them."""

from takeleave.basics import basic_kind
from takeleave.errors import NoWord
from takeleave.places import placed_words
from takeleave.shuffles import is_shuffle
from takeleave.words import is_basic


def told_kinds(book, kinds):
    """A dict of the kind of each told word of a book, where there are kinds."""
    return {told[0]: kind for told, kind in zip(book or (), kinds or ())}


def has_kind(text, told):
    """Whether a text is a word with a kind, where told has the kinds of told words."""
    return is_basic(text) or is_shuffle(text) or text in told


def kind_of_word(text, told):
    """The kind of a text that has one."""
    return told[text] if text in told else basic_kind(text)


def refuse_no_word(row, told):
    """Refuse a row with a text that is no word with a kind, by the first place of one."""
    for place, word in placed_words(row):
        if isinstance(word, str) and not has_kind(word, told):
            raise NoWord(place)
