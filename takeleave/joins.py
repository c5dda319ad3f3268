"""Kinds that go together, and the most open filling that makes them the same."""

from takeleave.fillings import rising
from takeleave.opennames import is_open_rest
from takeleave.webkinds import no_names, stack_knot, told_parts
from takeleave.webs import Web


def joined(one, other):
    """A most open filling that makes two rows' kinds the same, or None where there is none."""
    web = Web()
    # Names that both have are the same names: so both are put in with the same knots for them.
    knots = {}
    for stack, wanted in zip(one, other):
        if not web.tie(stack_knot(web, stack, knots), stack_knot(web, wanted, knots)):
            return None
    if web.has_ring():
        return None
    return filling_of(web, knots)


def filling_of(web, knots):
    """What a web without rings has for the names of these knots; names that stay are left out."""
    names = no_names()
    asked = [("stack" if is_open_rest(name) else "kind", knots[name]) for name in knots]
    for name, (sort, knot) in zip(knots, asked):
        # The first one of names that are tied together stands for all of them, so that no other names are needed.
        names[sort].setdefault(web.root(knot), name)
    told = told_parts(web, asked, names)
    parts = {name: told[web.root(knots[name])] for name in knots}
    return rising({name: parts[name] for name in parts if not stays(name, parts[name])})


def stays(name, part):
    """Whether what stands for a name is the name itself."""
    return part == ((name, ()) if is_open_rest(name) else ("open", name))
