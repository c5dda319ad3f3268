"""Slow and plain ways to tell the same as the package, for tests to compare with.

Kinds are handled as they are written, names are replaced one by one, and functions call themselves.
"""

from takeleave.basics import basic_kind
from takeleave.fillings import filled_stack
from takeleave.kinds import opens_of
from takeleave.shuffles import is_shuffle
from takeleave.words import SORTS_TAKEN


def replaced(part, name, by):
    """A kind of things or of stacks with something in the place of an open name."""
    if part[0] == "open":
        return by if part[1] == name else part
    if part[0] == "number":
        return part
    if part[0] == "list":
        return ("list", replaced(part[1], name, by))
    if part[0] == "row":
        return ("row", replaced(part[1], name, by), replaced(part[2], name, by))
    rest, kinds = part
    kinds = tuple(replaced(kind, name, by) for kind in kinds)
    return (by[0], by[1] + kinds) if rest == name else (rest, kinds)


def stands_in(name, part):
    """Whether an open name stands in a kind of things or of stacks."""
    return replaced(part, name, ("open", "?") if name[0].islower() else ("?", ())) != part


def solved(pairs):
    """The dict of what stands for names so that the kinds of each pair are the same, or None."""
    found = {}
    pairs = list(pairs)
    while pairs:
        one, other = pairs.pop()
        if one == other:
            continue
        bound = None
        if one[0] == "open":
            bound = (one[1], other)
        elif other[0] == "open":
            bound = (other[1], one)
        elif is_thing_kind(one):
            if one[0] != other[0]:
                return None
            pairs.extend(zip(one[1:], other[1:]))
        elif one[1] and other[1]:
            pairs.append((one[1][-1], other[1][-1]))
            pairs.append(((one[0], one[1][:-1]), (other[0], other[1][:-1])))
        elif not one[1] and one[0]:
            bound = (one[0], other)
        elif not other[1] and other[0]:
            bound = (other[0], one)
        else:
            return None
        if bound:
            name, by = bound
            if stands_in(name, by):
                return None
            pairs = [(replaced(first, name, by), replaced(second, name, by)) for first, second in pairs]
            found = {each: replaced(found[each], name, by) for each in found}
            found[name] = by
    return found


def is_thing_kind(part):
    return part[0] in ("number", "list", "row", "open")


class Asker:
    """What the words of a row ask of kinds of stacks ahead of them and behind them, as pairs by their places."""

    def __init__(self, told):
        self.told = told
        self.many = 0
        self.pairs = {}

    def fresh(self, letter):
        self.many += 1
        return f"{letter}{self.many}"

    def own(self, kind):
        """A row's kind with names of its own."""
        names = opens_of(*kind)
        new = {name: self.fresh("x" if name[0].islower() else "X") for name in names}
        filling = tuple(sorted((name, ("open", new[name]) if name[0].islower() else (new[name], ())) for name in names))
        return filled_stack(kind[0], filling), filled_stack(kind[1], filling)

    def row(self, row, place=()):
        """The stacks between the words of a row."""
        stacks = [(self.fresh("X"), ()) for at in range(len(row) + 1)]
        for at, word in enumerate(row):
            here = place + (at,)
            pairs = self.pairs.setdefault(here, [])
            if isinstance(word, str):
                take, leave = self.own(self.told[word] if word in self.told else basic_kind(word))
                pairs.extend([(stacks[at], take), (stacks[at + 1], leave)])
            else:
                kind = self.thing(word[1], here, pairs)
                pairs.append((stacks[at + 1], (stacks[at][0], (kind,))))
        return stacks

    def thing(self, thing, place, pairs):
        if thing[0] == "number":
            return ("number",)
        if thing[0] == "row":
            stacks = self.row(thing[1], place)
            return ("row", stacks[0], stacks[-1])
        kind = ("open", self.fresh("x"))
        for at, each in enumerate(thing[1]):
            pairs.append((kind, self.thing(each, place + (at,), pairs)))
        return ("list", kind)


def asked_kind(row, places=None, told=None):
    """The most open row's kind where the words at these places (all where None) are let by, or None."""
    asker = Asker(told or {})
    stacks = asker.row(row)
    places = asker.pairs if places is None else places
    found = solved([pair for place in places for pair in asker.pairs[place]])
    if found is None:
        return None
    take, leave = stacks[0], stacks[-1]
    for name, part in found.items():
        take, leave = replaced(take, name, part), replaced(leave, name, part)
    return take, leave


def asked_least(row, told=None):
    """The least set of places of a row without a kind, each place left out where it may be, from the last on."""
    asker = Asker(told or {})
    asker.row(row)
    kept = sorted(asker.pairs)
    for place in sorted(asker.pairs)[::-1]:
        others = [other for other in kept if other != place]
        if asked_kind(row, others, told) is None:
            kept = others
    return tuple(kept)


def plain_fits(stack, kind, told):
    """Whether a stack is of a kind of stacks, where told has the kinds of told words."""
    asker = Asker(told)
    rest, tops = kind
    pairs = []
    many = len(stack) - len(tops)
    if many < 0 or (rest == "" and many > 0):
        return False
    looked = list(zip(stack[many:], tops))
    if rest and any(stands_in(rest, top) for top in tops):
        beneath = tuple(("open", asker.fresh("x")) for thing in stack[:many])
        pairs.append(((rest, ()), ("", beneath)))
        looked += list(zip(stack[:many], beneath))
    for thing, part in looked:
        told_of_thing = plain_kind(thing, asker)
        if told_of_thing is None:
            return False
        pairs.append((told_of_thing, part))
    return solved(pairs) is not None


def plain_kind(thing, asker):
    """The kind of a thing, with names of its own, each row in it by its own found kind, or None."""
    if thing[0] == "number":
        return ("number",)
    if thing[0] == "row":
        if not all(is_known(text, asker.told) for text in texts_in(thing)):
            return None
        found = asked_kind(thing[1], None, asker.told)
        return None if found is None else ("row", *asker.own(found))
    part = ("open", asker.fresh("x"))
    kinds = [plain_kind(each, asker) for each in thing[1]]
    if None in kinds:
        return None
    found = solved([(part, kind) for kind in kinds])
    if found is None:
        return None
    return ("list", found.get(part[1], part))


def is_known(text, told):
    return text in told or text in SORTS_TAKEN or is_shuffle(text)


def texts_in(thing):
    """The texts in a thing or a pushing word, in order."""
    if thing[0] == "number":
        return []
    if thing[0] == "push":
        return texts_in(thing[1])
    return [text for part in thing[1] for text in ([part] if isinstance(part, str) else texts_in(part))]
