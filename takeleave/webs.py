"""Webs: parts of kinds as knots, some of which are tied together as the same."""


class Web:
    """Knots, each a number, for kinds of things and of stacks.

    The form of a knot is None where it is open, else a tuple of a mark and knots: ("number",), ("list", kind),
    ("row", take, leave) for a kind of things, ("none",) for a kind of stacks of which nothing lies beneath, and
    ("on", beneath, kind) for one with a kind on top.
    """

    def __init__(self):
        # The knot that each one was tied to, itself where it was not; the last one of such a chain holds the form.
        self.uppers = []
        self.forms = []

    def add_knot(self, form=None):
        """A new knot of this form."""
        self.uppers.append(len(self.uppers))
        self.forms.append(form)
        return len(self.forms) - 1

    def copied(self):
        """Another web with the same knots and ties."""
        other = Web()
        other.uppers = list(self.uppers)
        other.forms = list(self.forms)
        return other

    def root(self, knot):
        """The one of the knots tied to this one that stands for all of them."""
        uppers = self.uppers
        while uppers[knot] != knot:
            uppers[knot] = uppers[uppers[knot]]
            knot = uppers[knot]
        return knot

    def form_of(self, knot):
        """The form of a knot and of all that are tied to it."""
        return self.forms[self.root(knot)]

    def tie(self, one, other):
        """Tie two knots together, and the knots in them, and tell whether their forms let that be."""
        waiting = [(one, other)]
        while waiting:
            low, high = waiting.pop()
            low, high = self.root(low), self.root(high)
            if low == high:
                continue
            low_form, high_form = self.forms[low], self.forms[high]
            if high_form is None:
                self.uppers[high] = low
                continue
            self.uppers[low] = high
            if low_form is not None:
                if low_form[0] != high_form[0]:
                    return False
                waiting.extend(list(zip(low_form[1:], high_form[1:])))
        return True

    def knots_in(self, knot):
        """The roots of the knots that the form of a knot has."""
        form = self.form_of(knot)
        return [] if form is None else [self.root(inner) for inner in form[1:]]

    def has_ring(self):
        """Whether some knot stands in itself as a lesser part, so that no kind can be told of it."""
        begun = {}
        for start in range(len(self.forms)):
            # A knot is begun when it is come to, and ended (False) when all in it are.
            waiting = [self.root(start)]
            while waiting:
                knot = waiting[-1]
                if knot in begun:
                    begun[knot] = False
                    waiting.pop()
                    continue
                begun[knot] = True
                for inner in self.knots_in(knot):
                    if begun.get(inner, False):
                        return True
                    if inner not in begun:
                        waiting.append(inner)
        return False
