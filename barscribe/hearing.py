"""Heard rhythms: onsets that were heard with errors, written with the fewest signs."""

from barscribe.errors import BadDepth, BadOnset, BadSlip, TooMany
from barscribe.metres import is_number, point_of
from barscribe.states import Machine

MOST_ONSETS = 16
MOST_DEPTH = 8
MOST_ALLOWED = 40

BEGIN = (0, "")


def _is_fraction(thing):
    """Whether any value is a pair of integers that tells a number from 0 on."""
    if not isinstance(thing, tuple) or len(thing) != 2:
        return False
    return is_number(thing[0]) and is_number(thing[1]) and thing[0] >= 0 and thing[1] >= 1


def _allowed_rows(metre, onsets, slip, depth):
    """For each onset the ascending list of the points that are allowed; raises the errors of the module."""
    if not isinstance(onsets, (list, tuple)) or not 1 <= len(onsets) <= MOST_ONSETS:
        raise BadOnset(0)
    for index, onset in enumerate(onsets):
        if not _is_fraction(onset) or onset[0] > metre.pulses * onset[1]:
            raise BadOnset(index)
    if not _is_fraction(slip):
        raise BadSlip("no slip")
    if not is_number(depth) or not 0 <= depth <= MOST_DEPTH:
        raise BadDepth("no depth from 0 to 8")
    return [_near(metre, onset, slip, depth) for onset in onsets]


def _near(metre, onset, slip, depth):
    """The points of a depth that are at most the slip away from an onset, ascending."""
    middle = onset[0] * slip[1] << depth
    away = slip[0] * onset[1] << depth
    whole = onset[1] * slip[1]
    # The least number that is not below a fraction: the greatest one that is not above it, with both signs turned.
    first = max(-((away - middle) // whole), 0)
    last = min((middle + away) // whole, (metre.pulses << depth) - 1)
    if last - first >= MOST_ALLOWED:
        raise TooMany(MOST_ALLOWED)
    return [point_of(place, depth) for place in range(first, last + 1)]


def allowed(metre, onset, slip, depth):
    """The ascending list of the points that are allowed for an onset."""
    return _allowed_rows(metre, [onset], slip, depth)[0]


def _stuck(rows):
    """The index of the first onset that gets no point, and the point of the one before; None if each gets one."""
    before = None
    for index, row in enumerate(rows):
        later = [point for point in row if before is None or point > before]
        if not later:
            return index, before
        before = later[0]
    return None


def heard(metre, book, onsets, slip, depth):
    """The fewest signs, the least hearing that has so many, and potentials; or why there is no hearing."""
    rows = _allowed_rows(metre, onsets, slip, depth)
    stuck = _stuck(rows)
    if stuck is not None:
        index, point = stuck
        return ("none", index, point)
    search = Search(metre, book, rows)
    return ("heard", search.fewest, search.least(), search.potentials())


def is_hearing(metre, onsets, slip, depth, thing):
    """Whether any value is a hearing."""
    rows = _allowed_rows(metre, onsets, slip, depth)
    if not isinstance(thing, tuple) or len(thing) != len(rows):
        return False
    if not all([metre.is_point(point) and point in row for point, row in zip(thing, rows)]):
        return False
    return all([point < later for point, later in zip(thing, thing[1:])])


def is_least(metre, book, onsets, slip, depth, signs, thing):
    """Whether any value is potentials that show that each hearing has at least so many signs."""
    rows = _allowed_rows(metre, onsets, slip, depth)
    if not is_number(signs) or not _are_values(metre, rows, thing):
        return False
    return Search(metre, book, rows).shows(signs, thing)


def _are_values(metre, rows, thing):
    """Whether any value is a dict from all pairs of an index and a point that is allowed to integers."""
    if not isinstance(thing, dict) or len(thing) != sum([len(row) for row in rows]):
        return False
    for key, value in thing.items():
        if not isinstance(key, tuple) or len(key) != 2 or not is_number(key[0]) or not is_number(value):
            return False
        index, point = key
        if not 0 <= index < len(rows) or not metre.is_point(point) or point not in rows[index]:
            return False
    return True


def best_points(metre, book, onsets, slip, depth):
    """For each onset the points that it has in some hearing with the fewest signs."""
    rows = _allowed_rows(metre, onsets, slip, depth)
    stuck = _stuck(rows)
    if stuck is not None:
        raise BadOnset(stuck[0])
    return Search(metre, book, rows).best()


class Search:
    """The fewest signs of the ways through points that are allowed, one for each onset.

    later has for each onset a dict from its points, if there is a way from them to the end of the bar, to the fewest
    signs of such a way; fewest is that of all hearings, None if there is none.
    """

    def __init__(self, metre, book, rows):
        self.machine = Machine(metre, book)
        self.rows = rows
        self.finish = (metre.pulses, "")
        self.later = self._ways_on()
        self.fewest = min(list(self._totals().values()), default=None)

    def _totals(self):
        """From each first point to the fewest signs of the ways through it."""
        return {point: self._from_begin(point) + more for point, more in self.later[0].items()}

    def _from_begin(self, point):
        """The signs from the beginning of the bar to a point."""
        return 0 if point == BEGIN else self.machine.signs_of(BEGIN, point)

    def _ways_on(self):
        found = [{point: self.machine.signs_of(point, self.finish) for point in self.rows[-1]}]
        for row in reversed(self.rows[:-1]):
            here = {}
            for point in row:
                ways = self._through(point, found[-1])
                if ways:
                    here[point] = min(ways)
            found.append(here)
        return found[::-1]

    def _through(self, point, later):
        """The signs of the ways from a point on, through each of the next points that is later."""
        return [self.machine.signs_of(point, other) + more for other, more in later.items() if point < other]

    def _ways_back(self):
        """For each onset a dict from its points to the fewest signs from the beginning of the bar to there.

        A point that no way leads to has as many as the best hearing, so it never makes a way to the end shorter.
        """
        found = [{point: self._from_begin(point) for point in self.rows[0]}]
        for row in self.rows[1:]:
            before = found[-1]
            here = {}
            for point in row:
                ways = [signs + self.machine.signs_of(other, point) for other, signs in before.items() if other < point]
                here[point] = min(ways, default=self.fewest)
            found.append(here)
        return found

    def least(self):
        """The least hearing with the fewest signs."""
        points = [min([point for point, total in self._totals().items() if total == self.fewest])]
        for before, later in zip(self.later, self.later[1:]):
            here = points[-1]
            rest = {other: more for other, more in later.items() if here < other}
            points.append(self._first_with(here, rest, before[here]))
        return tuple(points)

    def _first_with(self, point, later, total):
        """The first of the next points behind which a way from this point has just so many signs."""
        return min([other for other, more in later.items() if self.machine.signs_of(point, other) + more == total])

    def potentials(self):
        """Potentials that show that no hearing has fewer signs."""
        rows = self._ways_back()
        return {(index, point): signs for index, row in enumerate(rows) for point, signs in row.items()}

    def best(self):
        """For each onset the points of all hearings with the fewest signs, ascending."""
        found = []
        for row, later in zip(self._ways_back(), self.later):
            found.append(tuple([point for point in later if row[point] + later[point] == self.fewest]))
        return found

    def shows(self, signs, values):
        """Whether values are potentials that show that each hearing has at least so many signs."""
        for point in self.rows[0]:
            if values[(0, point)] > self._from_begin(point):
                return False
        for index, row in enumerate(self.rows[1:]):
            for point in row:
                before = [other for other in self.rows[index] if other < point]
                ways = [values[(index, other)] + self.machine.signs_of(other, point) for other in before]
                if ways and values[(index + 1, point)] > min(ways):
                    return False
        last = len(self.rows) - 1
        for point in self.rows[last]:
            if values[(last, point)] + self.machine.signs_of(point, self.finish) < signs:
                return False
        return True
