"""Rhythms in rows of metres: their pieces, signs, ties and writings, and the best row."""

from barscribe.errors import BadRow
from barscribe.far import Far
from barscribe.metres import Metre, is_number
from barscribe.states import Machine
from barscribe.tops import DEPTH

MOST_BARS = 240
MOST_METRES = 12

# A machine looks at all sides of a metre before it tells of a note; for at most so many notes for each pulse of the
# metre it is faster to do without.
FEW = 8


def _are_metres(thing, most):
    """Whether any value is a list of metres, with at least one and at most so many."""
    if not isinstance(thing, (list, tuple)) or not 1 <= len(thing) <= most:
        return False
    return all([isinstance(metre, Metre) for metre in thing])


def _check_row(rhythm, row):
    if not _are_metres(row, MOST_BARS) or sum([metre.pulses for metre in row]) != rhythm.length:
        raise BadRow("no row of metres that fits")


def check_metres_of_rows(metres):
    """Raises an error for any value that is no list of metres for rows."""
    if not _are_metres(metres, MOST_METRES):
        raise BadRow("no list of 1 to 12 metres")


def bar_pieces(rhythm, metre, begin):
    """The pieces of the bar that begins at this pulse."""
    end = begin + metre.pulses
    found = []
    index = rhythm.at((begin, ""))
    while index < len(rhythm) and rhythm.notes[index][0] < (end, ""):
        first, last = rhythm.span(index)
        x = max(first, (begin, ""))
        y = min(last, (end, ""))
        found.append((index, (x[0] - begin, x[1]), (y[0] - begin, y[1])))
        index = index + 1
    return found


def _begins(row):
    """The pulse at which each bar of a row begins."""
    found = [0]
    for metre in row[:-1]:
        found.append(found[-1] + metre.pulses)
    return found


def pieces(rhythm, row):
    """For each bar the list of its pieces."""
    _check_row(rhythm, row)
    return [bar_pieces(rhythm, metre, begin) for metre, begin in zip(row, _begins(row))]


class Bars:
    """What the bars of some metres need by a book, each metre being looked at once."""

    def __init__(self, book):
        self.book = book
        self.asked = {}
        self.machines = {}
        self.fars = {}

    def signs_of(self, metre, x, y):
        """The fewest signs of a note."""
        asked = self.asked.get(metre.tree, 0)
        if asked < FEW * metre.pulses:
            self.asked[metre.tree] = asked + 1
            return self._far(metre).signs_of(x, y)
        if metre.tree not in self.machines:
            self.machines[metre.tree] = Machine(metre, self.book)
        return self.machines[metre.tree].signs_of(x, y)

    def best(self, metre, x, y):
        """The first writing with the fewest signs of a note."""
        return self._far(metre).entry_of(x, y, True)[2]

    def _far(self, metre):
        if metre.tree not in self.fars:
            self.fars[metre.tree] = Far(metre, self.book, metre.pulses << DEPTH)
        return self.fars[metre.tree]

    def bar_signs(self, rhythm, metre, begin):
        """The number of signs of the bar that begins at this pulse."""
        return sum([self.signs_of(metre, x, y) for _, x, y in bar_pieces(rhythm, metre, begin)])


def signs(rhythm, row, book):
    """The number of signs of a rhythm in a row."""
    _check_row(rhythm, row)
    bars = Bars(book)
    return sum([bars.bar_signs(rhythm, metre, begin) for metre, begin in zip(row, _begins(row))])


def ties(rhythm, row, book):
    """The number of ties of a rhythm in a row."""
    bars = Bars(book)
    total = 0
    for metre, bar in zip(row, pieces(rhythm, row)):
        for index, x, y in bar:
            if rhythm.notes[index][1] == "tone":
                total = total + bars.signs_of(metre, x, y)
    return total - len([sound for _, sound in rhythm.notes if sound == "tone"])


def written(rhythm, row, book):
    """For each bar the list of the pairs of the index of a note and the writing of its piece."""
    bars = Bars(book)
    found = []
    for metre, bar in zip(row, pieces(rhythm, row)):
        found.append([(index, bars.best(metre, x, y)) for index, x, y in bar])
    return found


def _bar_table(rhythm, metres, book):
    """For each metre, by its index, the signs of its bars that begin at pulse 0, 1 and so on."""
    bars = Bars(book)
    found = []
    for metre in metres:
        found.append([bars.bar_signs(rhythm, metre, begin) for begin in range(rhythm.length - metre.pulses + 1)])
    return found


def best_row(rhythm, metres, book):
    """The least number of signs of all rows of these metres that fit, and the indexes of the best one; or None."""
    check_metres_of_rows(metres)
    table = _bar_table(rhythm, metres, book)
    # For each pulse the triple of the fewest signs from there on, the fewest bars, and the least index of the first.
    ways = {rhythm.length: (0, 0, 0)}
    for begin in range(rhythm.length - 1, -1, -1):
        found = []
        for index, metre in enumerate(metres):
            if begin + metre.pulses in ways:
                total, bars, _ = ways[begin + metre.pulses]
                found.append((total + table[index][begin], bars + 1, index))
        if found:
            ways[begin] = min(found)
    if 0 not in ways:
        return None
    indexes = []
    begin = 0
    while begin < rhythm.length:
        indexes.append(ways[begin][2])
        begin = begin + metres[indexes[-1]].pulses
    return ways[0][0], tuple(indexes)


def bounds(rhythm, metres, book):
    """Bounds, with the last entry as great as it can be."""
    check_metres_of_rows(metres)
    table = _bar_table(rhythm, metres, book)
    # A pulse to which no row leads may have any entry that makes no other one less: all signs of all bars do.
    high = sum([sum(row) for row in table])
    found = [0]
    for end in range(1, rhythm.length + 1):
        found.append(min(_most_allowed(metres, table, found, end), default=high))
    return found


def _most_allowed(metres, table, entries, end):
    """For each bar that ends at this pulse how much the entry there can be at most."""
    begins = [(row, end - metre.pulses) for row, metre in zip(table, metres)]
    return [entries[begin] + row[begin] for row, begin in begins if begin >= 0]


def is_bounds(rhythm, metres, book, value):
    """Whether any value is a list of bounds."""
    check_metres_of_rows(metres)
    if not isinstance(value, list) or len(value) != rhythm.length + 1 or not all([is_number(entry) for entry in value]):
        return False
    table = _bar_table(rhythm, metres, book)
    for end in range(1, rhythm.length + 1):
        if value[end] > min(_most_allowed(metres, table, value, end), default=value[end]):
            return False
    return value[0] == 0
