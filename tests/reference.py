"""Metres, shapes and writings once more, straight from the words of the document.

Nothing here is taken from the package, so that both can be compared. Points are fractions.
"""

from fractions import Fraction
from itertools import combinations, product


def walk(tree, begin, depth, levels):
    """Enters the levels between the children of a tree that begins at a pulse; returns its end."""
    if tree == 1:
        return begin + 1
    for index, child in enumerate(tree):
        if index > 0:
            levels[begin] = depth + 1
        begin = walk(child, begin, depth + 1, levels)
    return begin


def odd_part(number):
    while number % 2 == 0:
        number //= 2
    return number


def dots_of_length(length):
    """The dots of a length, a fraction above 0; None if it is no value."""
    if length.denominator & (length.denominator - 1):
        return None
    return {1: 0, 3: 1, 7: 2}.get(odd_part(length.numerator))


def to_point(time):
    """The point of a time."""
    pulse, rest = divmod(time, 1)
    bits = ""
    while rest:
        digit, rest = divmod(2 * rest, 1)
        bits += str(digit)
    return (int(pulse), bits)


def to_time(point):
    pulse, bits = point
    return pulse + sum((Fraction(1, 2 ** (at + 1)) for at, digit in enumerate(bits) if digit == "1"), Fraction(0))


def mirrored_tree(tree):
    return 1 if tree == 1 else tuple(mirrored_tree(child) for child in reversed(tree))


def all_trees(pulses, deep=4, root=True):
    """All trees with so many pulses."""
    if pulses == 1:
        return [1]
    if deep == 0 or (not root and odd_part(pulses) not in (1, 3, 7)):
        return []
    found = []
    for first in range(1, pulses):
        for one, other in product(all_trees(first, deep - 1, False), all_trees(pulses - first, deep - 1, False)):
            found.append((one, other))
        for second in range(1, pulses - first):
            parts = (first, second, pulses - first - second)
            found.extend(product(*[all_trees(part, deep - 1, False) for part in parts]))
    return found


class Bar:
    """A bar of a metre, with all its points of a depth."""

    def __init__(self, tree, depth):
        self.borders = {}
        self.pulses = walk(tree, 0, 0, self.borders)
        self.top = max(self.borders.values(), default=0)
        self.borders[0] = self.borders[self.pulses] = 0
        self.cuts = [Fraction(pulse) for pulse in sorted(self.borders) if self.borders[pulse] <= 1]
        self.unit = 2 ** depth
        self.times = [Fraction(place, self.unit) for place in range(self.pulses * self.unit + 1)]
        # One depth more, so that there are points between any two.
        self.fine = [self.level(Fraction(place, 2 * self.unit)) for place in range(2 * self.pulses * self.unit + 1)]
        self.shapes = {}

    def level(self, time):
        if time.denominator == 1:
            return self.borders[time.numerator]
        return self.top + time.denominator.bit_length() - 1

    def shape(self, x, y):
        """The shape of a sign, found by looking at all points between."""
        if (x, y) not in self.shapes:
            self.shapes[x, y] = self.find_shape(x, y)
        return self.shapes[x, y]

    def find_shape(self, x, y):
        dots = dots_of_length(y - x)
        if dots is None:
            return None
        least = min(self.fine[int(2 * self.unit * x) + 1:int(2 * self.unit * y)])
        s, t = self.level(x) - least, self.level(y) - least
        return None if s > 2 or t > 2 else (dots, max(s, -1), max(t, -1))

    def between(self, x, y):
        return [time for time in self.times if x < time < y]

    def fills_without_value(self, x, y):
        return x == 0 and y == self.pulses and dots_of_length(Fraction(self.pulses)) is None

    def is_writing(self, shapes, times):
        """Point 9 of the document, word by word, for a tuple of ascending times."""
        if self.fills_without_value(times[0], times[-1]):
            return list(times) == self.cuts
        levels = [self.level(time) for time in times]
        strongest = min(levels)
        turns = [
            all(a >= b for a, b in zip(levels[:at + 1], levels[1:at + 1]))
            and all(a <= b for a, b in zip(levels[at:], levels[at + 1:]))
            for at in range(len(levels))
        ]
        deep = [a for a, b in zip(levels, levels[1:]) if a == b and a > self.top]
        if not any(turns) or len(deep) > 1 or any(level != strongest for level in deep):
            return False
        return all(self.shape(x, y) in shapes for x, y in zip(times, times[1:]))

    def writings(self, shapes, x, y):
        """All writings, found among all rows of points."""
        inner = self.between(x, y)
        rows = [(x, *row, y) for many in range(len(inner) + 1) for row in combinations(inner, many)]
        return sorted(row for row in rows if self.is_writing(shapes, row))

    def fewest(self, shapes, x, y):
        """The fewest signs, and the number of writings with so many, by the strongest points of the writings."""
        if self.fills_without_value(x, y):
            return (len(self.cuts) - 1, 1)
        most = max(self.level(x), self.level(y))
        times = [x] + [time for time in self.between(x, y) if self.level(time) <= most] + [y]
        down = self.ways(shapes, times, x, 1)
        up = self.ways(shapes, times[::-1], y, -1)
        found = [self.together(down[time], up[time]) for time in times]
        for one, other in combinations(times, 2):
            if self.level(one) == self.level(other) > self.top and self.shape(one, other) in shapes:
                if down[one] and up[other]:
                    found.append((down[one][0] + 1 + up[other][0], down[one][1] * up[other][1]))
        return best_of(found)

    @staticmethod
    def together(one, other):
        return one and other and (one[0] + other[0], one[1] * other[1])

    def ways(self, shapes, times, start, way):
        """For each time the fewest signs from start with falling levels.

        The way forward has no common levels at the strongest one (so the first strongest point is meant);
        the way back may have some, not below those of the pulses.
        """
        equal = {start: (0, 1)}
        strict = {start: (0, 1)}
        for at, time in enumerate(times):
            for before in times[:at]:
                x, y = (before, time) if way > 0 else (time, before)
                if before not in equal or self.shape(x, y) not in shapes:
                    continue
                gap = self.level(before) - self.level(time)
                sign = (equal[before][0] + 1, equal[before][1])
                if gap > 0:
                    strict[time] = best_of([strict.get(time), sign])
                if gap > 0 or gap == 0 and self.level(time) <= self.top:
                    equal[time] = best_of([equal.get(time), sign])
        return {time: (strict if way > 0 else equal).get(time) for time in times}


def best_of(entries):
    """The entry for several disjoint sets of writings together."""
    entries = [entry for entry in entries if entry]
    if not entries:
        return None
    signs = min(entry[0] for entry in entries)
    return (signs, sum(entry[1] for entry in entries if entry[0] == signs))


class DeepNote:
    """A note with many digits, written by a search from point to point; points are whole numbers of smallest distances.

    By point 10 a sign that begins or ends at a point with more than two bits spans at most 7 of its smallest distances.
    So only points near the two ends, as near as the depth asks for, can occur.
    """

    def __init__(self, tree, shapes, x, y):
        self.depth = max(2, len(x[1]), len(y[1]))
        self.bar = Bar(tree, 2)
        self.shapes = shapes
        self.first, self.last = [(pulse << self.depth) + int(bits.ljust(self.depth, "0"), 2) for pulse, bits in (x, y)]
        self.places = sorted(place for place in self.near() if self.first <= place <= self.last)
        self.signs = {place: [] for place in self.places}
        for one, other in self.pairs():
            if self.shape(one, other) in shapes:
                self.signs[one].append(other)

    def near(self):
        """The points with at most two bits, and some near the ends at each other depth."""
        unit = 1 << (self.depth - 2)
        found = {place * unit for place in range(4 * self.bar.pulses + 1)} | {self.first, self.last}
        for depth in range(3, self.depth + 1):
            unit = 1 << (self.depth - depth)
            for step in range(12):
                found |= {(self.first // unit + step) * unit, (self.last // unit - step) * unit}
        return found

    def unit(self, place):
        """The smallest distance of a place, one of depth 2 at the most."""
        return min(place & -place or 1 << self.depth, 1 << (self.depth - 2))

    def pairs(self):
        coarse = 1 << (self.depth - 2)
        strong = [place for place in self.places if place % coarse == 0]
        found = set(combinations(strong, 2))
        for place in self.signs:
            if place % coarse:
                for step in range(1, 8):
                    found |= {(place, place + step * self.unit(place)), (place - step * self.unit(place), place)}
        return [pair for pair in found if pair[0] in self.signs and pair[1] in self.signs]

    def level(self, half):
        """The level of a point that is told in halves of the smallest distance."""
        whole = 1 << (self.depth + 1)
        if half % whole == 0:
            return self.bar.borders[half // whole]
        return self.bar.top + self.depth + 2 - (half & -half).bit_length()

    def shape(self, one, other):
        coarse = 1 << (self.depth - 2)
        if one % coarse == 0 and other % coarse == 0:
            return self.bar.shape(Fraction(one, 1 << self.depth), Fraction(other, 1 << self.depth))
        unit = min(self.unit(one), self.unit(other))
        dots = dots_of_length(Fraction((other - one) // unit))
        if dots is None:
            return None
        least = min(self.level(half) for half in range(2 * one + unit, 2 * other, unit))
        s, t = self.level(2 * one) - least, self.level(2 * other) - least
        return None if s > 2 or t > 2 else (dots, max(s, -1), max(t, -1))

    def answer(self):
        """The fewest signs, how many writings have so many, and the first of them."""
        found = {(self.first, "falling"): (0, 1, (self.first,))}
        for place in self.places:
            for way in ("falling", "rising"):
                if (place, way) in found:
                    self.go_on(found, place, way)
        ends = [found.get((self.last, way)) for way in ("falling", "rising")]
        signs, many, row = self.both(*ends)
        return signs, many, tuple(to_point(Fraction(place, 1 << self.depth)) for place in row)

    def go_on(self, found, place, way):
        signs, many, row = found[place, way]
        for other in self.signs[place]:
            gap = self.level(2 * other) - self.level(2 * place)
            deep = self.level(2 * place) > self.bar.top
            if way == "falling" and (gap < 0 or gap == 0 and not deep):
                key = (other, "falling")
            elif gap > 0 or gap == 0 and (way == "falling") == deep:
                key = (other, "rising")
            else:
                continue
            found[key] = self.both(found.get(key), (signs + 1, many, row + (other,)))

    @staticmethod
    def both(one, other):
        entries = [entry for entry in (one, other) if entry]
        signs = min(entry[0] for entry in entries)
        entries = [entry for entry in entries if entry[0] == signs]
        return (signs, sum(entry[1] for entry in entries), min(entry[2] for entry in entries))
