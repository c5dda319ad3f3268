"""Putting kinds in the place of open names."""


def filled_part(sort, part, table):
    """A kind of things or of stacks, as sort tells, filled by a dict of what stands for each open name."""
    # What is still to be done, the next one last, and what has been made of its parts so far, the newest last.
    waiting = [(sort, part)]
    made = []
    while waiting:
        task, piece = waiting.pop()
        if task == "kind":
            begin_kind(piece, table, waiting, made)
        elif task == "stack":
            rest, kinds = piece
            waiting.append(("end stack", (rest, len(kinds))))
            waiting.extend([("kind", kind) for kind in kinds[::-1]])
        elif task == "end list":
            made.append(("list", made.pop()))
        elif task == "end row":
            leave = made.pop()
            made.append(("row", made.pop(), leave))
        else:
            end_stack(piece, table, made)
    return made[0]


def begin_kind(kind, table, waiting, made):
    """Make a kind without parts at once, or put its parts, and what ends it behind them, on the waiting list."""
    if kind[0] == "number":
        made.append(kind)
    elif kind[0] == "open":
        made.append(table.get(kind[1], kind))
    elif kind[0] == "list":
        waiting.extend([("end list", None), ("kind", kind[1])])
    else:
        waiting.extend([("end row", None), ("stack", kind[2]), ("stack", kind[1])])


def end_stack(piece, table, made):
    """Make a kind of stacks of its rest and of the newest kinds, as many as it has."""
    rest, many = piece
    kinds = tuple(made[len(made) - many:])
    del made[len(made) - many:]
    new_rest, ahead = table.get(rest, (rest, ()))
    made.append((new_rest, ahead + kinds))
