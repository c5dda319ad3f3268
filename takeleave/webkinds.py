"""Putting kinds into a web, and telling the kinds that a web has."""

from takeleave.opennames import GREAT_LETTERS, lettered
from takeleave.words import SMALL_LETTERS


def stack_knot(web, stack, names):
    """The knot of a kind of stacks that is put into a web, where names has the knot of each open name so far."""
    waiting = []
    top = begun_stack(web, stack, names, waiting)
    while waiting:
        kind, knot = waiting.pop()
        if kind[0] == "list":
            web.forms[knot] = ("list", begun_kind(web, kind[1], names, waiting))
        else:
            take = begun_stack(web, kind[1], names, waiting)
            web.forms[knot] = ("row", take, begun_stack(web, kind[2], names, waiting))
    return top


def begun_stack(web, stack, names, waiting):
    """The knot of a kind of stacks; kinds in it whose form is still to be made are put on the waiting list."""
    rest, kinds = stack
    knot = web.add_knot(("none",)) if rest == "" else named_knot(web, rest, names)
    for kind in kinds:
        knot = web.add_knot(("on", knot, begun_kind(web, kind, names, waiting)))
    return knot


def begun_kind(web, kind, names, waiting):
    """The knot of a kind of things, which is put on the waiting list where its form is still to be made."""
    if kind[0] == "open":
        return named_knot(web, kind[1], names)
    if kind[0] == "number":
        return web.add_knot(kind)
    knot = web.add_knot()
    waiting.append((kind, knot))
    return knot


def named_knot(web, name, names):
    """The knot of an open name."""
    if name not in names:
        names[name] = web.add_knot()
    return names[name]


def no_names():
    """What told_parts takes as names where no root has one yet."""
    return {"stack": {}, "kind": {}}


def told_parts(web, asked, names):
    """The kinds of the asked pairs of a sort and a knot, in a web without rings, and of all in them, by their roots.

    names has, for each sort, the name of each open root that has one; the others get the next letters as they come
    first, as the asked ones are written one behind the other.
    """
    told = {}
    # Each root is told once, however often it stands somewhere: written out, kinds may be far greater than the web.
    waiting = [(sort, web.root(knot)) for sort, knot in asked[::-1]]
    while waiting:
        sort, root = waiting[-1]
        inner = [] if root in told else inner_roots(web, sort, root)
        missing = [part for part in inner if part[1] not in told]
        if missing:
            waiting.extend(missing[::-1])
            continue
        waiting.pop()
        if root not in told:
            told[root] = told_part(web, sort, root, [told[part[1]] for part in inner], names)
    return told


def inner_roots(web, sort, root):
    """What must be told ahead of a root: pairs of a sort and a root, in the order in which they are written."""
    if sort == "stack":
        return inner_of_stack(web, root)
    form = web.forms[root]
    inner_sort = "stack" if form is not None and form[0] == "row" else "kind"
    return [(inner_sort, inner) for inner in web.knots_in(root)]


def inner_of_stack(web, root):
    """What lies beneath all kinds of a kind of stacks, and these; nothing where there are none."""
    kinds = []
    beneath = root
    while web.forms[beneath] is not None and web.forms[beneath][0] == "on":
        beneath, kind = web.knots_in(beneath)
        kinds.append(("kind", kind))
    return [] if beneath == root else [("stack", beneath)] + kinds[::-1]


def told_part(web, sort, root, inner, names):
    """The kind of a root, where all that stands in it is told."""
    form = web.forms[root]
    if form is None:
        name = told_name(sort, root, names)
        return (name, ()) if sort == "stack" else ("open", name)
    if form[0] == "none":
        return ("", ())
    if form[0] == "on":
        return (inner[0][0], tuple(inner[1:]))
    return (form[0], *inner)


def told_name(sort, root, names):
    """The name of an open root, a new one where it has none yet."""
    named = names[sort]
    if root not in named:
        named[root] = lettered(len(named), GREAT_LETTERS if sort == "stack" else SMALL_LETTERS)
    return named[root]
