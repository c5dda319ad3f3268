"""Turns of rows by the rules, and papers of turns that lead from one row to another one."""

from takeleave.errors import NoTurn
from takeleave.forms import is_equal, is_whole
from takeleave.pushes import is_row_push, push_row, row_pushed
from takeleave.rules import turns_to
from takeleave.things import is_row

# The words that do the row that is pushed ahead of them, and those that do both rows.
DOING_ONE = ("do", "dip", "repeat", "each")
DOING_TWO = ("if", "while", "part")


def may_enter(row, number):
    """Whether a row may be entered at the word with this number: a pushed row that is done alone."""
    if not is_whole(number) or not 0 <= number < len(row) or not is_row_push(row[number]):
        return False
    if number + 1 < len(row) and row[number + 1] in DOING_ONE:
        return True
    return is_pair_done(row, number) or is_pair_done(row, number - 1)


def is_pair_done(row, number):
    """Whether two pushed rows stand from this number on, and a word that does both behind them."""
    if number < 0 or number + 2 >= len(row) or row[number + 2] not in DOING_TWO:
        return False
    return is_row_push(row[number]) and is_row_push(row[number + 1])


def turned(row, turn, book=None):
    """The row that a turn makes of a row, of anything as turn."""
    return turned_from(row, turn, book)[0]


def turned_from(row, turn, book):
    """The row that a turn makes of a row, and the words that were there."""
    if not is_turn_form(turn):
        raise NoTurn("this is no turn")
    place, many, rule, new = turn
    rows = rows_entered(row, place[:-1])
    words, at = rows.pop(), place[-1]
    if not 0 <= at <= len(words) - many:
        raise NoTurn("there are not so many words from this place on")
    old = words[at:at + many]
    if not turns_to(rule, old, new, book):
        raise NoTurn("the words do not turn so by this rule")
    made = words[:at] + new + words[at + many:]
    for number in place[:-1][::-1]:
        around = rows.pop()
        made = around[:number] + (push_row(made),) + around[number + 1:]
    return made, old


def is_turn_form(thing):
    """Whether anything is a place, a number of words, a text and a row."""
    if not isinstance(thing, tuple) or len(thing) != 4:
        return False
    place, many, rule, new = thing
    if not isinstance(place, tuple) or len(place) == 0 or not all([is_whole(number) for number in place]):
        return False
    return is_whole(many) and many >= 0 and isinstance(rule, str) and is_row(new)


def rows_entered(row, numbers):
    """A row and the rows that are entered one in the other at these numbers, the inmost last."""
    rows = [row]
    for number in numbers:
        if not may_enter(rows[-1], number):
            raise NoTurn("a row may not be entered here")
        rows.append(row_pushed(rows[-1][number]))
    return rows


def paper_holds(one, other, paper, book=None):
    """Whether anything is a paper that leads from one row to another one."""
    if not isinstance(paper, tuple):
        return False
    row = one
    for turn in paper:
        try:
            row = turned(row, turn, book)
        except NoTurn:
            return False
    return is_equal(row, other)


def turned_back(row, paper, book=None):
    """Of a paper that leads from a row to another one, a paper from that to the row."""
    back = []
    for turn in paper:
        row, old = turned_from(row, turn, book)
        place, many, rule, new = turn
        back.append((place, len(new), rule, old))
    return tuple(back[::-1])
