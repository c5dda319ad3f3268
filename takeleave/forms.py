"""Looking at nested values part by part."""


def is_whole(thing):
    """Whether anything is a whole number: an int that is no truth."""
    return isinstance(thing, int) and not isinstance(thing, bool)


def is_marked(thing):
    """Whether anything is a tuple that begins with a text."""
    return isinstance(thing, tuple) and len(thing) > 0 and isinstance(thing[0], str)


def has_form(sort, thing, asked_within):
    """Whether a thing is of a sort, where asked_within tells what that asks of its parts.

    asked_within(sort, part) gives pairs (sort, part) that must hold in turn, or None where the part is not
    of the sort whatever stands in it.
    """
    # A list of what is still to be asked, and no calls within calls: values may be nested deeper than calls may.
    waiting = [(sort, thing)]
    while waiting:
        asked, part = waiting.pop()
        inner = asked_within(asked, part)
        if inner is None:
            return False
        waiting.extend(inner)
    return True


def is_equal(one, other):
    """Whether two values of tuples, texts and whole numbers are the same."""
    # Not by == alone, which goes only as deep into tuples as calls may go.
    waiting = [(one, other)]
    while waiting:
        left, right = waiting.pop()
        if isinstance(left, tuple) and isinstance(right, tuple):
            if len(left) != len(right):
                return False
            waiting.extend(list(zip(left, right)))
        elif isinstance(left, tuple) or isinstance(right, tuple) or left != right:
            return False
    return True
