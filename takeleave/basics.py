"""The kinds of the basic words and of shuffles."""

from takeleave.kindtexts import read_kind
from takeleave.shuffles import LETTERS, taken_left

KIND_TEXTS = {
    "plus": "A number number -- A number",
    "minus": "A number number -- A number",
    "times": "A number number -- A number",
    "less": "A number number -- A number",
    "same": "A number number -- A number",
    "do": "A [ A -- B ] -- B",
    "dip": "A a [ A -- B ] -- B a",
    "if": "A number [ A -- B ] [ A -- B ] -- B",
    "while": "A [ A -- A number ] [ A -- A ] -- A",
    "repeat": "A number [ A -- A ] -- A",
    "join": "A [ B -- C ] [ C -- D ] -- A [ B -- D ]",
    "wrap": "A a -- A [ B -- B a ]",
    "put": "A { a } a -- A { a }",
    "part": "A { a } [ A a { a } -- B ] [ A -- B ] -- B",
    "each": "A { a } [ A a -- A ] -- A",
}


def basic_kind(text):
    """The kind of a basic word or a shuffle, in the told form."""
    if text in KIND_TEXTS:
        return read_kind(KIND_TEXTS[text])
    n, picks = taken_left(text)
    kinds = [("open", letter) for letter in LETTERS[:n]]
    return ("A", tuple(kinds)), ("A", tuple([kinds[pick] for pick in picks]))
