"""What a step does, word by word."""

from takeleave.errors import NoStep
from takeleave.pushes import push_row
from takeleave.shuffles import is_shuffle, taken_left
from takeleave.things import NUMBERS
from takeleave.words import SORTS_TAKEN, is_basic


def number_thing(n):
    """The number n, as the rest by 10 ** 12, as a thing."""
    return ("number", n % NUMBERS)


# Each of the following tells, of what a basic word takes, the things that it leaves and the words that it puts
# ahead. Numbers, rows and lists are handed in as what the thing holds, things of any sort as they are.


def plus_does(held):
    """m + n."""
    m, n = held
    return (number_thing(m + n),), ()


def minus_does(held):
    """m - n."""
    m, n = held
    return (number_thing(m - n),), ()


def times_does(held):
    """m * n."""
    m, n = held
    return (number_thing(m * n),), ()


def less_does(held):
    """Whether m is below n, as 1 or 0."""
    m, n = held
    return (number_thing(1 if m < n else 0),), ()


def same_does(held):
    """Whether m is n, as 1 or 0."""
    m, n = held
    return (number_thing(1 if m == n else 0),), ()


def do_does(held):
    """Do a row."""
    return (), held[0]


def dip_does(held):
    """Do a row beneath a thing."""
    x, p = held
    return (), p + (("push", x),)


def if_does(held):
    """Do one of two rows, by a number."""
    n, p, q = held
    return (), (p if n != 0 else q)


def while_does(held):
    """Do the second row as long as the first one leaves a number that is not 0."""
    p, q = held
    again = q + (push_row(p), push_row(q), "while")
    return (), p + (push_row(again), push_row(()), "if")


def repeat_does(held):
    """Do a row n times."""
    n, p = held
    if n == 0:
        return (), ()
    return (), p + (("push", number_thing(n - 1)), push_row(p), "repeat")


def join_does(held):
    """Two rows as one."""
    p, q = held
    return (("row", p + q),), ()


def wrap_does(held):
    """The row that pushes a thing."""
    return (("row", (("push", held[0]),)),), ()


def put_does(held):
    """A list with a thing behind its things."""
    things, x = held
    return (("list", things + (x,)),), ()


def part_does(held):
    """Part a list into its first thing and the others, or do without."""
    things, p, q = held
    if len(things) == 0:
        return (), q
    return (things[0], ("list", things[1:])), p


def each_does(held):
    """Do a row on each thing of a list."""
    things, p = held
    if len(things) == 0:
        return (), ()
    return (things[0],), p + (("push", ("list", things[1:])), push_row(p), "each")


DOES = {
    "plus": plus_does,
    "minus": minus_does,
    "times": times_does,
    "less": less_does,
    "same": same_does,
    "do": do_does,
    "dip": dip_does,
    "if": if_does,
    "while": while_does,
    "repeat": repeat_does,
    "join": join_does,
    "wrap": wrap_does,
    "put": put_does,
    "part": part_does,
    "each": each_does,
}


def takes_of(text):
    """How many things a basic word or a shuffle takes."""
    if is_basic(text):
        return len(SORTS_TAKEN[text])
    return taken_left(text)[0]


def step(state, book=None):
    """The state behind one step."""
    stack, todo = state
    if len(todo) == 0:
        raise NoStep("the state has ended")
    taken, left, ahead = effect_of(todo[0], stack, book)
    return stack[:len(stack) - taken] + left, ahead + todo[1:]


def effect_of(word, stack, book):
    """What a word does on a stack: how many things it takes, those it leaves, and the words it puts ahead."""
    if isinstance(word, tuple):
        return 0, (word[1],), ()
    if is_basic(word):
        return effect_of_basic(word, stack)
    if is_shuffle(word):
        return effect_of_shuffle(word, stack)
    return 0, (), row_told(word, book)


def effect_of_basic(word, stack):
    """What a basic word does on a stack."""
    sorts = SORTS_TAKEN[word]
    held = [held_as(sort, thing) for sort, thing in zip(sorts, top_of(stack, len(sorts)))]
    does = DOES[word]
    left, ahead = does(held)
    return len(sorts), left, ahead


def effect_of_shuffle(word, stack):
    """What a shuffle does on a stack."""
    n, picks = taken_left(word)
    things = top_of(stack, n)
    return n, tuple([things[pick] for pick in picks]), ()


def top_of(stack, many):
    """So many things from the top, the top last."""
    if len(stack) < many:
        raise NoStep("there are too few things")
    return stack[len(stack) - many:]


def held_as(sort, thing):
    """What a thing of the sort that is asked for holds; the thing itself where any is asked for."""
    if sort == "any":
        return thing
    if thing[0] != sort:
        raise NoStep("a thing is of another sort than the word takes")
    return thing[1]


def row_told(name, book):
    """The row that a book tells of a name."""
    for told in book or ():
        if told[0] == name:
            return told[2]
    raise NoStep("the book has no such word")
