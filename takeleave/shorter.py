"""Rows put shorter, turn by turn."""

from takeleave.errors import NoShuffle
from takeleave.maps import map_of
from takeleave.pushes import is_push, row_pushed
from takeleave.rules import beneath_made, dips_made, emptied_made, slid_map, stepped_made, turned_made
from takeleave.shuffles import is_shuffle, is_shuffle_row, shuffle_of
from takeleave.steps import takes_of
from takeleave.things import words_in
from takeleave.turns import may_enter, turned
from takeleave.words import is_basic


def shorter(row, book=None):
    """A row put shorter as long as some turn does it, and the paper of the turns."""
    paper = []
    turn = first_turn(row, book)
    while turn is not None:
        paper.append(turn)
        row = turned(row, turn, book)
        turn = first_turn(row, book)
    return row, tuple(paper)


def first_turn(row, book):
    """The first turn that makes the words of a row fewer, or None."""
    waiting = places_in((), row)
    while waiting:
        place, words = waiting.pop()
        number = place[-1]
        for many, rule, new in turns_at(words, number, book):
            if new is not None and words_in(new) < words_in(words[number:number + many]):
                return place, many, rule, new
        if may_enter(words, number):
            waiting.extend(places_in(place, row_pushed(words[number])))
    return None


def places_in(around, words):
    """The places of the words of a row, each with the row, the last one first."""
    return [(around + (number,), words) for number in reversed(range(len(words)))]


def turns_at(words, at, book):
    """What is tried at a word, in order: how many words from there on turn by a rule, and to what, perhaps None."""
    two = words[at:at + 2]
    return [
        stepped_at(words, at, book),
        (2, "mapped", two_mapped(two)),
        (1, "mapped", one_mapped(two[:1])),
        (2, "turned", turned_made(two, book)),
        (4, "dips", dips_made(words[at:at + 4], book)),
        (2, "beneath", beneath_made(two, book)),
        (2, "slid", mapped_row(slid_map(two))),
        (2, "emptied", emptied_made(two, book)),
    ]


def stepped_at(words, at, book):
    """The turn by a step of the first text from a word on, where there are just as many pushes as it takes."""
    end = at
    while end < len(words) and is_push(words[end]):
        end += 1
    stretch = words[at:end + 1]
    if end == len(words) or pushes_asked(words[end]) != end - at:
        return len(stretch), "stepped", None
    return len(stretch), "stepped", stepped_made(stretch, book)


def pushes_asked(text):
    """How many pushes ahead of a text are tried: as many as it takes, of a told word none."""
    return takes_of(text) if is_basic(text) or is_shuffle(text) else 0


def two_mapped(stretch):
    """The row of the shuffle that does what two shuffles do, or None."""
    return mapped_row(map_of(stretch)) if len(stretch) == 2 and is_shuffle_row(stretch) else None


def one_mapped(stretch):
    """The row without words for a shuffle that changes nothing, else None."""
    return () if is_shuffle_row(stretch) and map_of(stretch) == (0, ()) else None


def mapped_row(done):
    """The row of the shuffle of a map, or None where there is none."""
    if done is None:
        return None
    n, picks = done
    try:
        return (shuffle_of(n, picks),)
    except NoShuffle:
        return None
