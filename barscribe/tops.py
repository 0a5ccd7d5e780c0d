"""The writings between the places of depth 2, from which those of all notes grow."""

from barscribe.growing import ends, starts
from barscribe.metres import place_level, point_of
from barscribe.writings import DOWN, UP, cut_bar, is_cut_bar, phase_behind, places_behind

DEPTH = 2


def top_side(point):
    """Where a point is at depth 2."""
    pulse, bits = point
    number = 4 * pulse + int(bits.ljust(DEPTH, "0")[:DEPTH], 2)
    if len(bits) <= DEPTH:
        return ("at", number)
    return ("in", number)


def merged(one, other):
    """Of two entries that tell of different writings of one note, the entry that tells of both."""
    if one is None:
        return other
    if other is None or one[0] < other[0]:
        return one
    if other[0] < one[0]:
        return other
    return (one[0], one[1] + other[1], min(one[2], other[2]))


class Top:
    """The writings of a metre and a book between the places of depth 2, up to a last place.

    An entry is a triple: the fewest signs of a note, the number of writings that have so many, and the first of them.
    """

    def __init__(self, metre, book, last):
        self.metre = metre
        self.book = book
        self.levels = [place_level(metre, DEPTH, place) for place in range(last + 1)]
        self.onward = {}
        self.rows = {}

    def table(self, x, y):
        """For each start of x's side and each end of y's side the entry, None if the start is behind the end."""
        return [[self._entry(start, end) for end in ends(y)] for start in starts(x)]

    def signs(self, x, y):
        """The table with the fewest signs alone."""
        return [[None if entry is None else entry[0] for entry in row] for row in self.table(x, y)]

    def _entry(self, start, end):
        if start > end:
            return None
        if start not in self.rows:
            self.rows[start] = self._row_from(start)
        return self.rows[start][end]

    def _row_from(self, start):
        """The entries of all notes from a place on, by the places where they end."""
        found = {(start, DOWN): (0, 1, (point_of(start, DEPTH),))}
        row = {}
        for place in range(start, len(self.levels)):
            for phase in (DOWN, UP):
                if (place, phase) in found:
                    self._lengthen(found, place, phase)
            row[place] = merged(found.get((place, DOWN)), found.get((place, UP)))
        last = len(self.levels) - 1
        if is_cut_bar(self.metre, point_of(start, DEPTH), point_of(last, DEPTH)):
            points = cut_bar(self.metre)
            row[last] = (len(points) - 1, 1, points)
        return row

    def _behind(self, place):
        """The places to which a sign of the book leads from this one."""
        if place not in self.onward:
            self.onward[place] = places_behind(self.metre, self.book, DEPTH, place, len(self.levels) - 1)
        return self.onward[place]

    def _lengthen(self, found, place, phase):
        """Adds one sign to the writings that are found for a place and a phase."""
        signs, many, points = found[(place, phase)]
        for other in self._behind(place):
            behind = phase_behind(self.metre, phase, self.levels[place], self.levels[other])
            if behind is not None:
                entry = (signs + 1, many, (*points, point_of(other, DEPTH)))
                found[(other, behind)] = merged(found.get((other, behind)), entry)
