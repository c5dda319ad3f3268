"""How great a thing may grow."""

from takeleave.pushes import is_push

MOST_PARTS = 400
MOST_DEEP = 100


def is_bounded(thing):
    """Whether a thing has at most so many words and things of lists in all, and brackets at most so many deep."""
    many = 0
    waiting = [(thing, 1)]
    while waiting:
        (sort, held), deep = waiting.pop()
        if sort == "number":
            continue
        many += len(held)
        # Not counted on: a thing may have far more parts than it is worth to go through.
        if many > MOST_PARTS or deep > MOST_DEEP:
            return False
        waiting.extend([(inner, deep + 1) for inner in things_within(sort, held)])
    return True


def things_within(sort, held):
    """The things of a list, or those that the words of a row push."""
    return list(held) if sort == "list" else [word[1] for word in held if is_push(word)]
