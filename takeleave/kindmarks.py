"""Kinds as the marks that they are written by, one behind the other."""


def marks_of(sort, part):
    """The marks of a kind of things or of stacks, as sort tells."""
    marks = []
    # A list of what is still to be written, and no calls within calls: kinds may be nested deeper than calls may.
    waiting = [(sort, part)]
    while waiting:
        asked, piece = waiting.pop()
        if asked == "mark":
            marks.append(piece)
        elif asked == "stack":
            waiting.extend(pieces_of_stack(piece)[::-1])
        else:
            waiting.extend(pieces_of_kind(piece)[::-1])
    return marks


def marks_of_row_kind(take, leave):
    """The marks of a row's kind."""
    return marks_of("stack", take) + ["--"] + marks_of("stack", leave)


def pieces_of_stack(stack):
    """What a kind of stacks is written by: its rest, if there is one, and its kinds."""
    rest, kinds = stack
    ahead = [] if rest == "" else [("mark", rest)]
    return ahead + [("kind", kind) for kind in kinds]


def pieces_of_kind(kind):
    """What a kind of things is written by."""
    if kind[0] == "number":
        return [("mark", "number")]
    if kind[0] == "open":
        return [("mark", kind[1])]
    if kind[0] == "list":
        return [("mark", "{"), ("kind", kind[1]), ("mark", "}")]
    take, leave = kind[1:]
    return [("mark", "["), ("stack", take), ("mark", "--"), ("stack", leave), ("mark", "]")]
