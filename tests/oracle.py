"""Slow and plain ways to tell the same as the package, for tests to compare with.

Kinds are handled as they are written, names are replaced one by one, and functions call themselves.
"""

from takeleave.basics import basic_kind
from takeleave.errors import NoStep
from takeleave.fillings import filled_stack
from takeleave.kinds import opens_of
from takeleave.maps import least_map, map_of
from takeleave.runs import run
from takeleave.shuffles import is_shuffle, taken_left
from takeleave.steps import step, takes_of
from takeleave.words import SORTS_TAKEN


def replaced(part, name, by):
    """A kind of things or of stacks with something in the place of an open name."""
    if part[0] == "open":
        return by if part[1] == name else part
    if part[0] == "number":
        return part
    if part[0] == "list":
        return ("list", replaced(part[1], name, by))
    if part[0] == "row":
        return ("row", replaced(part[1], name, by), replaced(part[2], name, by))
    rest, kinds = part
    kinds = tuple(replaced(kind, name, by) for kind in kinds)
    return (by[0], by[1] + kinds) if rest == name else (rest, kinds)


def stands_in(name, part):
    """Whether an open name stands in a kind of things or of stacks."""
    return replaced(part, name, ("open", "?") if name[0].islower() else ("?", ())) != part


def solved(pairs):
    """The dict of what stands for names so that the kinds of each pair are the same, or None."""
    found = {}
    pairs = list(pairs)
    while pairs:
        one, other = pairs.pop()
        if one == other:
            continue
        bound = None
        if one[0] == "open":
            bound = (one[1], other)
        elif other[0] == "open":
            bound = (other[1], one)
        elif is_thing_kind(one):
            if one[0] != other[0]:
                return None
            pairs.extend(zip(one[1:], other[1:]))
        elif one[1] and other[1]:
            pairs.append((one[1][-1], other[1][-1]))
            pairs.append(((one[0], one[1][:-1]), (other[0], other[1][:-1])))
        elif not one[1] and one[0]:
            bound = (one[0], other)
        elif not other[1] and other[0]:
            bound = (other[0], one)
        else:
            return None
        if bound:
            name, by = bound
            if stands_in(name, by):
                return None
            pairs = [(replaced(first, name, by), replaced(second, name, by)) for first, second in pairs]
            found = {each: replaced(found[each], name, by) for each in found}
            found[name] = by
    return found


def is_thing_kind(part):
    return part[0] in ("number", "list", "row", "open")


class Asker:
    """What the words of a row ask of kinds of stacks ahead of them and behind them, as pairs by their places."""

    def __init__(self, told):
        self.told = told
        self.many = 0
        self.pairs = {}

    def fresh(self, letter):
        self.many += 1
        return f"{letter}{self.many}"

    def own(self, kind):
        """A row's kind with names of its own."""
        names = opens_of(*kind)
        new = {name: self.fresh("x" if name[0].islower() else "X") for name in names}
        filling = tuple(sorted((name, ("open", new[name]) if name[0].islower() else (new[name], ())) for name in names))
        return filled_stack(kind[0], filling), filled_stack(kind[1], filling)

    def row(self, row, place=()):
        """The stacks between the words of a row."""
        stacks = [(self.fresh("X"), ()) for at in range(len(row) + 1)]
        for at, word in enumerate(row):
            here = place + (at,)
            pairs = self.pairs.setdefault(here, [])
            if isinstance(word, str):
                take, leave = self.own(self.told[word] if word in self.told else basic_kind(word))
                pairs.extend([(stacks[at], take), (stacks[at + 1], leave)])
            else:
                kind = self.thing(word[1], here, pairs)
                pairs.append((stacks[at + 1], (stacks[at][0], (kind,))))
        return stacks

    def thing(self, thing, place, pairs):
        if thing[0] == "number":
            return ("number",)
        if thing[0] == "row":
            stacks = self.row(thing[1], place)
            return ("row", stacks[0], stacks[-1])
        kind = ("open", self.fresh("x"))
        for at, each in enumerate(thing[1]):
            pairs.append((kind, self.thing(each, place + (at,), pairs)))
        return ("list", kind)


def asked_kind(row, places=None, told=None):
    """The most open row's kind where the words at these places (all where None) are let by, or None."""
    asker = Asker(told or {})
    stacks = asker.row(row)
    places = asker.pairs if places is None else places
    found = solved([pair for place in places for pair in asker.pairs[place]])
    if found is None:
        return None
    take, leave = stacks[0], stacks[-1]
    for name, part in found.items():
        take, leave = replaced(take, name, part), replaced(leave, name, part)
    return take, leave


def asked_least(row, told=None):
    """The least set of places of a row without a kind, each place left out where it may be, from the last on."""
    asker = Asker(told or {})
    asker.row(row)
    kept = sorted(asker.pairs)
    for place in sorted(asker.pairs)[::-1]:
        others = [other for other in kept if other != place]
        if asked_kind(row, others, told) is None:
            kept = others
    return tuple(kept)


def plain_fits(stack, kind, told):
    """Whether a stack is of a kind of stacks, where told has the kinds of told words."""
    asker = Asker(told)
    rest, tops = kind
    pairs = []
    many = len(stack) - len(tops)
    if many < 0 or (rest == "" and many > 0):
        return False
    looked = list(zip(stack[many:], tops))
    if rest and any(stands_in(rest, top) for top in tops):
        beneath = tuple(("open", asker.fresh("x")) for thing in stack[:many])
        pairs.append(((rest, ()), ("", beneath)))
        looked += list(zip(stack[:many], beneath))
    for thing, part in looked:
        told_of_thing = plain_kind(thing, asker)
        if told_of_thing is None:
            return False
        pairs.append((told_of_thing, part))
    return solved(pairs) is not None


def plain_kind(thing, asker):
    """The kind of a thing, with names of its own, each row in it by its own found kind, or None."""
    if thing[0] == "number":
        return ("number",)
    if thing[0] == "row":
        if not all(is_known(text, asker.told) for text in texts_in(thing)):
            return None
        found = asked_kind(thing[1], None, asker.told)
        return None if found is None else ("row", *asker.own(found))
    part = ("open", asker.fresh("x"))
    kinds = [plain_kind(each, asker) for each in thing[1]]
    if None in kinds:
        return None
    found = solved([(part, kind) for kind in kinds])
    if found is None:
        return None
    return ("list", found.get(part[1], part))


def is_known(text, told):
    return text in told or text in SORTS_TAKEN or is_shuffle(text)


def texts_in(thing):
    """The texts in a thing or a pushing word, in order."""
    if thing[0] == "number":
        return []
    if thing[0] == "push":
        return texts_in(thing[1])
    return [text for part in thing[1] for text in ([part] if isinstance(part, str) else texts_in(part))]


def things_done(row, many=100):
    """What a row of shuffles makes of the stack of so many numbers, as numbers."""
    how, steps, (stack, todo) = run(row, tuple([("number", number) for number in range(many)]), 10 ** 6)
    assert how == "ended"
    return [n for sort, n in stack]


def is_shuffles(row):
    return all(is_shuffle(word) for word in row)


def plain_turns(rule, old, new, book=None):
    """Whether one of two stretches turns to the other by a rule."""
    return plain_leads(rule, old, new, book) or plain_leads(rule, new, old, book)


def plain_leads(rule, left, right, book):
    """Whether a stretch turns to another one by a rule, left to right."""
    match rule, left:
        case "mapped", _:
            return is_shuffles(left) and is_shuffles(right) and things_done(left) == things_done(right)
        case "stepped", (*pushes, str(text)) if not any(isinstance(word, str) for word in pushes):
            try:
                stack, todo = step((tuple(word[1] for word in pushes), (text,)), book)
            except NoStep:
                return False
            return right == tuple(("push", thing) for thing in stack) + todo
        case "turned", ("ab-ba", "plus" | "times" | "same" as word):
            return right == (word,)
        case "dips", (("push", ("row", p)), "dip", ("push", ("row", q)), "dip"):
            return right == (("push", ("row", p + q)), "dip")
        case "beneath", (("push", ("row", (("push", x),))), "dip"):
            return right == (("push", x), "ab-ba")
        case "slid", (("push", ("row", (str(word),))), "dip") if is_shuffle(word):
            return len(right) == 1 and is_shuffles(right) and things_done(right) == things_done((word,), 99) + [99]
        case "emptied", (("push", ("row", ())), "dip"):
            return right == ("a-a",)
    return False


def plain_may_enter(row, number):
    """Whether a row may be entered at a word that has this number."""
    def is_row_push(at):
        return 0 <= at < len(row) and not isinstance(row[at], str) and row[at][1][0] == "row"
    behind = row[number + 1:] + (None, None)
    if not is_row_push(number):
        return False
    if behind[0] in ("do", "dip", "repeat", "each"):
        return True
    first = is_row_push(number + 1) and behind[1] in ("if", "while", "part")
    return first or (is_row_push(number - 1) and behind[0] in ("if", "while", "part"))


def plain_turned(row, turn, book=None):
    """The row that a turn of the right form makes of a row, or None."""
    (number, *inner), many, rule, new = turn
    if number < 0 or number > len(row):
        return None
    if inner:
        if number == len(row) or not plain_may_enter(row, number):
            return None
        made = plain_turned(row[number][1][1], (inner, many, rule, new), book)
        return None if made is None else row[:number] + (("push", ("row", made)),) + row[number + 1:]
    if number + many > len(row) or not plain_turns(rule, row[number:number + many], new, book):
        return None
    return row[:number] + new + row[number + many:]


def plain_paper(one, other, paper, book=None):
    """Whether a tuple of turns of the right form leads from one row to another one."""
    for turn in paper:
        one = plain_turned(one, turn, book)
        if one is None:
            return False
    return one == other


def plain_words(row):
    """How many words a row has in all."""
    return sum(1 if isinstance(word, str) else 1 + plain_words_of_thing(word[1]) for word in row)


def plain_words_of_thing(thing):
    if thing[0] == "number":
        return 0
    if thing[0] == "row":
        return plain_words(thing[1])
    return sum(plain_words_of_thing(each) for each in thing[1])


def plain_candidates(row, at, book):
    """What is tried to put a row shorter at a word: triples of how many words, the rule, and the new words."""
    for end in range(at, len(row)):
        word = row[end]
        if isinstance(word, str):
            takes = takes_of(word) if word in SORTS_TAKEN or is_shuffle(word) else 0
            if takes == end - at:
                try:
                    stack, todo = step((tuple(push[1] for push in row[at:end]), (word,)), book)
                except NoStep:
                    break
                yield end + 1 - at, "stepped", tuple(("push", thing) for thing in stack) + todo
            break
    here, two = row[at], row[at:at + 2]
    if len(two) == 2 and is_shuffles(two):
        yield from [(2, "mapped", (text,)) for text in plain_shuffle(map_of(two))]
    if is_shuffles((here,)) and map_of((here,)) == (0, ()):
        yield 1, "mapped", ()
    if two in (("ab-ba", "plus"), ("ab-ba", "times"), ("ab-ba", "same")):
        yield 2, "turned", two[1:]
    if len(two) < 2 or two[1] != "dip" or isinstance(here, str) or here[1][0] != "row":
        return
    p, four = here[1][1], row[at:at + 4]
    if len(four) == 4 and four[3] == "dip" and not isinstance(four[2], str) and four[2][1][0] == "row":
        yield 4, "dips", (("push", ("row", p + four[2][1][1])), "dip")
    if len(p) == 1 and not isinstance(p[0], str):
        yield 2, "beneath", (p[0], "ab-ba")
    if len(p) == 1 and is_shuffles(p):
        n, picks = taken_left(p[0])
        yield from [(2, "slid", (text,)) for text in plain_shuffle(least_map(n + 1, picks + (n,)))]
    if p == ():
        yield 2, "emptied", ("a-a",)


def plain_shuffle(done):
    """A list of the shuffle of a map, without any where it has too many letters."""
    n, picks = done
    if n > 8 or len(picks) > 12:
        return []
    return ["abcdefgh"[:n] + "-" + "".join("abcdefgh"[pick] for pick in picks)]


def plain_first_turn(row, book, place=()):
    """The first turn that makes the words fewer, or None."""
    for at, word in enumerate(row):
        for many, rule, new in plain_candidates(row, at, book):
            if plain_words(new) < plain_words(row[at:at + many]):
                return place + (at,), many, rule, new
        if plain_may_enter(row, at):
            turn = plain_first_turn(word[1][1], book, place + (at,))
            if turn is not None:
                return turn
    return None


def plain_shorter(row, book=None):
    """A row put shorter, and the paper of the turns."""
    paper = []
    while (turn := plain_first_turn(row, book)) is not None:
        paper.append(turn)
        row = plain_turned(row, turn, book)
    return row, tuple(paper)


class Uncoded(Exception):
    """A word without a code."""


class Walk:
    """A row gone through with things that are known, and None for those that are not, by calls within calls."""

    def __init__(self, book):
        self.rows = {name: row for name, told, row in book or ()}
        self.many = 0

    def through(self, row, stack, names):
        """Go through a row on a stack that is a list; tells how many things were taken from beneath."""
        beneath = 0
        for word in row:
            beneath += self.word(word, stack, names)
        return beneath

    def word(self, word, stack, names):
        self.many += 1
        if self.many > 1000:
            raise Uncoded
        if not isinstance(word, str):
            stack.append(word[1])
            return 0
        if word not in SORTS_TAKEN and not is_shuffle(word):
            if word not in self.rows or word in names:
                raise Uncoded
            return self.through(self.rows[word], stack, names + (word,))
        beneath = max(0, takes_of(word) - len(stack))
        stack[:0] = [None] * beneath
        taken = [stack.pop() for at in range(takes_of(word))][::-1]
        if is_shuffle(word):
            stack.extend(taken[pick] for pick in taken_left(word)[1])
            return beneath
        return beneath + self.basic(word, taken, stack, names)

    def basic(self, word, taken, stack, names):
        if word in ("while", "repeat", "part", "each"):
            raise Uncoded
        for sort, thing in zip(SORTS_TAKEN[word], taken):
            if thing is not None and sort != "any" and thing[0] != sort:
                raise Uncoded
            if thing is None and sort == "row" and word in ("do", "dip", "if"):
                raise Uncoded
        if word == "do":
            return self.through(taken[0][1], stack, names)
        if word == "dip":
            beneath = self.through(taken[1][1], stack, names)
            stack.append(taken[0])
            return beneath
        if word == "if":
            return self.choice(taken, stack, names)
        if None in taken:
            stack.append(None)
            return 0
        made = step((tuple(taken), (word,)))[0][0]
        if plain_parts(made) > 400 or plain_depth(made) > 100:
            raise Uncoded
        stack.append(made)
        return 0

    def choice(self, taken, stack, names):
        number, one, other = taken
        if number is not None:
            return self.through(one[1] if number[1] else other[1], stack, names)
        sides = []
        for row in (one[1], other[1]):
            left = []
            takes = self.through(row, left, names)
            sides.append((takes, len(left) - takes))
        if sides[0][1] != sides[1][1]:
            raise Uncoded
        takes = max(sides[0][0], sides[1][0])
        beneath = max(0, takes - len(stack))
        stack[:0] = [None] * beneath
        del stack[len(stack) - takes:]
        stack.extend([None] * (takes + sides[0][1]))
        return beneath


def plain_parts(thing):
    """How many words and things of lists a thing has in all."""
    if thing[0] == "number":
        return 0
    inner = thing[1] if thing[0] == "list" else [word[1] for word in thing[1] if not isinstance(word, str)]
    return len(thing[1]) + sum(plain_parts(each) for each in inner)


def plain_depth(thing):
    """How many brackets deep a thing is."""
    if thing[0] == "number":
        return 0
    inner = thing[1] if thing[0] == "list" else [word[1] for word in thing[1] if not isinstance(word, str)]
    return 1 + max([plain_depth(each) for each in inner], default=0)


def plain_coded(row, book=None):
    """("code", takes, how many are left) of a row with a code; ("none", place) of one without."""
    walk = Walk(book)
    stack, takes = [], 0
    for number, word in enumerate(row):
        try:
            takes += walk.word(word, stack, ())
        except Uncoded:
            return "none", (number,)
    return "code", takes, len(stack)
