"""A plain account of a score: bars as trees, and each part as a list of stretches (begin, end, sound) of fractions.

It tells what each deed does, or which error it raises, straight from the words of the document.
"""

import copy
from fractions import Fraction

from barscribe.metres import Metre, is_tree
from barscribe.moving import signs
from barscribe.rhythms import Rhythm
from barscribe.shapes import Book, is_shape
from tests.reference import to_point, to_time

LENGTHS = {
    "part": 2, "leave": 2, "play": 5, "cut": 3, "tie": 3, "bar": 3, "drop": 2, "metre": 3, "book": 2, "undo": 1, "redo": 1,
}

NAMED = ("leave", "play", "cut", "tie")


class Wrong(Exception):
    """An error: the name of its class, and the value that it holds."""

    def __init__(self, name, *held):
        Exception.__init__(self, name)
        self.name, self.held = name, held


def number(thing):
    return type(thing) is int


def pulses_of(tree):
    return 1 if tree == 1 else sum(pulses_of(child) for child in tree)


def moment_time(thing, most):
    """The time of a moment that is not above a most one, or None."""
    if type(thing) is not tuple or len(thing) != 2 or not number(thing[0]) or type(thing[1]) is not str:
        return None
    if set(thing[1]) - {"0", "1"} or thing[1][-1:] == "0" or thing[0] < 0:
        return None
    return to_time(thing) if to_time(thing) <= most else None


class Ledger:
    def __init__(self, trees, shapes=()):
        self.trees, self.shapes, self.parts = list(trees), list(shapes), {}
        self.past, self.ahead, self.log = [], [], []

    @property
    def length(self):
        return sum(pulses_of(tree) for tree in self.trees)

    def begin_of(self, index):
        return sum(pulses_of(tree) for tree in self.trees[:index])

    def rhythm(self, name):
        return Rhythm(self.length, [(to_point(begin), sound) for begin, _, sound in self.parts[name]])

    def signs_of(self, name):
        return signs(self.rhythm(name), [Metre(tree) for tree in self.trees], Book(self.shapes))

    def signs(self):
        return sum(self.signs_of(name) for name in self.parts)

    def do(self, deed):
        """Does a deed, or raises Wrong and changes nothing."""
        if type(deed) is not tuple or not deed or type(deed[0]) is not str or LENGTHS.get(deed[0]) != len(deed):
            raise Wrong("BadDeed", 0)
        if deed[0] in ("undo", "redo"):
            taken, kept = (self.past, self.ahead) if deed[0] == "undo" else (self.ahead, self.past)
            if not taken:
                raise Wrong("NothingDone")
            before, one = taken.pop()
            kept.append((self.page(), one))
            self.trees, self.shapes, self.parts, self.log = before
            return
        after = copy.deepcopy(self)
        after.change(*deed)
        if any(len(spans) > 200 for spans in after.parts.values()):
            raise Wrong("TooMany", 200)
        self.past.append((self.page(), deed))
        self.ahead = []
        kept = (deed[0], list(deed[1])) if deed[0] == "book" else deed
        self.trees, self.shapes, self.parts, self.log = after.trees, after.shapes, after.parts, self.log + [kept]

    def page(self):
        return copy.deepcopy((self.trees, self.shapes, self.parts, self.log))

    def change(self, word, *parts):
        if word in NAMED and not (type(parts[0]) is str and parts[0] in self.parts):
            raise Wrong("NoPart", parts[0])
        getattr(self, "do_" + word)(*parts)

    def do_part(self, name):
        if type(name) is not str or not 1 <= len(name) <= 8 or set(name) - set("abcdefghijklmnopqrstuvwxyz"):
            raise Wrong("BadName", name)
        if name in self.parts:
            raise Wrong("Taken", name)
        if len(self.parts) == 8:
            raise Wrong("TooMany", 8)
        self.parts[name] = [(Fraction(0), Fraction(self.length), "rest")]

    def do_leave(self, name):
        del self.parts[name]

    def do_play(self, name, begin, end, sound):
        first, last = moment_time(begin, self.length), moment_time(end, self.length)
        if first is None or first == self.length:
            raise Wrong("BadMoment", begin)
        if last is None or last <= first:
            raise Wrong("BadMoment", end)
        if type(sound) is not str or sound not in ("tone", "rest"):
            raise Wrong("BadSound")
        self.parts[name] = sorted(without(self.parts[name], first, last) + [(first, last, sound)])

    def do_cut(self, name, moment):
        time = moment_time(moment, self.length)
        around = [span for span in self.parts[name] if time is not None and span[0] < time < span[1]]
        if not around:
            raise Wrong("BadMoment", moment)
        self.parts[name] = split(self.parts[name], time)

    def do_tie(self, name, moment):
        time = moment_time(moment, self.length)
        ahead = [span for span in self.parts[name] if span[1] == time]
        behind = [span for span in self.parts[name] if span[0] == time]
        if not ahead or not behind or ahead[0][2] != behind[0][2]:
            raise Wrong("BadMoment", moment)
        rest = [span for span in self.parts[name] if span not in (ahead[0], behind[0])]
        self.parts[name] = sorted(rest + [(ahead[0][0], behind[0][1], ahead[0][2])])

    def do_bar(self, index, tree):
        if not number(index) or not 0 <= index <= len(self.trees):
            raise Wrong("BadBar", index)
        if not is_tree(tree):
            raise Wrong("BadMetre")
        if len(self.trees) == 24:
            raise Wrong("TooMany", 24)
        more = pulses_of(tree)
        if self.length + more > 240:
            raise Wrong("TooMany", 240)
        line = self.begin_of(index)
        for name, spans in self.parts.items():
            spans = split(spans, line)
            ahead = [span for span in spans if span[1] <= line]
            behind = [(begin + more, end + more, sound) for begin, end, sound in spans if begin >= line]
            self.parts[name] = ahead + [(Fraction(line), Fraction(line + more), "rest")] + behind
        self.trees.insert(index, tree)

    def do_drop(self, index):
        if not number(index) or not 0 <= index < len(self.trees) or len(self.trees) == 1:
            raise Wrong("BadBar", index)
        first, last = self.begin_of(index), self.begin_of(index + 1)
        for name, spans in self.parts.items():
            rest = without(spans, first, last)
            moved = [(begin - last + first, end - last + first, sound) for begin, end, sound in rest if begin >= last]
            self.parts[name] = [span for span in rest if span[1] <= first] + moved
        del self.trees[index]

    def do_metre(self, index, tree):
        if not number(index) or not 0 <= index < len(self.trees):
            raise Wrong("BadBar", index)
        if not is_tree(tree) or pulses_of(tree) != pulses_of(self.trees[index]):
            raise Wrong("BadMetre")
        self.trees[index] = tree

    def do_book(self, shapes):
        if not isinstance(shapes, (list, tuple)):
            raise Wrong("BadBook", 0)
        for index, shape in enumerate(shapes):
            if not is_shape(shape):
                raise Wrong("BadBook", index)
        self.shapes = list(shapes)


def split(spans, time):
    """Stretches, of which the one that goes over a time is two."""
    found = []
    for begin, end, sound in spans:
        found.extend([(begin, time, sound), (time, end, sound)] if begin < time < end else [(begin, end, sound)])
    return [(Fraction(begin), Fraction(end), sound) for begin, end, sound in found]


def without(spans, first, last):
    """Stretches, without all that lies between two times."""
    return [span for span in split(split(spans, first), last) if span[1] <= first or span[0] >= last]
