"""Stacks that are of a kind of stacks, and the most open kind of a stack."""

from takeleave.errors import NoWord
from takeleave.kinds import opens_of
from takeleave.pushes import pushes_of
from takeleave.weaving import all_tied, woven
from takeleave.webkinds import no_names, stack_knot, told_parts
from takeleave.wordkinds import told_kinds


def fits(stack, kind, book=None, kinds=None):
    """Whether a stack is of a kind of stacks."""
    rest, tops = kind
    if rest != "" and rest not in opens_of(("", tops), ("", ())):
        # An open rest that stands nowhere else is for whatever lies there: it is not looked at.
        stack = stack[max(0, len(stack) - len(tops)):]
        rest = ""
    web, knot = stack_in_web(stack, told_kinds(book, kinds))
    if web is None:
        return False
    return web.tie(knot, stack_knot(web, (rest, tops), {})) and not web.has_ring()


def kind_of_stack(stack, book=None, kinds=None):
    """The most open kind of a stack with nothing beneath, or None where there is none."""
    web, knot = stack_in_web(stack, told_kinds(book, kinds))
    if web is None:
        return None
    return told_parts(web, [("stack", knot)], no_names())[web.root(knot)]


def stack_in_web(stack, told):
    """A web with the knot of the kind of a stack, or None and None where there is none."""
    # A row that is pushed has its found kind, filled as what stands around it asks: so the things are woven as
    # those that a row of pushes leaves on no things at all.
    try:
        weave = woven(pushes_of(stack), told)
    except NoWord:
        return None, None
    web = all_tied(weave)
    if web is None:
        return None, None
    knots = weave.pieces[0].stacks
    # The row of pushes takes nothing, so what lies beneath is open, and this tie can always be.
    web.tie(knots[0], web.add_knot(("none",)))
    return web, knots[-1]
