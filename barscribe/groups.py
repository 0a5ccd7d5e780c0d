"""Figures: borders between notes at any fractions of a pulse, and groups that divide cells into 3, 5 or 7 parts."""

from math import gcd

from barscribe.errors import BadFigure, BadGroups, BadMetre, BadNumber, NoGrouping
from barscribe.metres import Metre, is_number, point_of
from barscribe.moving import Bars

MOST_BORDERS = 40
MOST_PARTS = 1_000_000_000

# The trees of the own metres of groups.
OWN = {3: (1, 1, 1), 5: ((1, 1, 1), (1, 1)), 7: ((1, 1, 1), (1, 1), (1, 1))}


def _is_time(metre, thing):
    """Whether any value is a time in a bar of this metre."""
    if not isinstance(thing, tuple) or len(thing) != 2 or not is_number(thing[0]) or not is_number(thing[1]):
        return False
    most = metre.pulses * thing[1]
    return 1 <= thing[1] <= MOST_PARTS and 0 <= thing[0] <= most and gcd(thing[0], thing[1]) == 1


def _checked(metre, borders):
    """The tuple of the borders; raises the error of the first that is not valid."""
    if not isinstance(borders, (list, tuple)):
        raise BadFigure(0)
    for index, border in enumerate(borders[:MOST_BORDERS]):
        if not _is_time(metre, border) or not _follows(borders, index):
            raise BadFigure(index)
    if len(borders) > MOST_BORDERS:
        raise BadFigure(MOST_BORDERS)
    if not borders or borders[-1] != (metre.pulses, 1):
        raise BadFigure(len(borders))
    return tuple(borders)


def _follows(borders, index):
    """Whether a border, which is a time, is behind the one before it; the first one is 0."""
    if index == 0:
        return borders[0] == (0, 1)
    before, border = borders[index - 1:index + 1]
    return before[0] * border[1] < border[0] * before[1]


class Figure:
    """The borders of the notes in a bar."""

    def __init__(self, metre, borders):
        if not isinstance(metre, Metre):
            raise BadMetre("a figure has a metre")
        self.metre = metre
        self.borders = _checked(metre, borders)

    def __eq__(self, other):
        return isinstance(other, Figure) and self.metre == other.metre and self.borders == other.borders

    def __len__(self):
        return len(self.borders[1:])

    def kind(self, index):
        """The kind of a border: the greatest odd divisor of its denominator."""
        if not is_number(index) or not 0 <= index < len(self.borders):
            raise BadNumber("no border has this index")
        parts = self.borders[index][1]
        return parts // (parts & -parts)


def _kinds(figure):
    return [figure.kind(index) for index in range(len(figure.borders))]


def _is_cell(nodes, begin, end):
    """Whether the stretch between two plain times is a cell, nodes being those of the metre."""
    if begin[1] == 1 and end[1] == 1:
        length = end[0] - begin[0]
        return length & (length - 1) == 0 and (begin[0], end[0]) in nodes
    # The only cells with an end within a pulse are halves of a pulse, halves of these and so on.
    unit = max(begin[1], end[1])
    length = end[0] * (unit // end[1]) - begin[0] * (unit // begin[1])
    first = begin[0] * (unit // begin[1])
    return length & (length - 1) == 0 and length <= unit and first % length == 0


def frames(figure):
    """The ascending list of all frames."""
    kinds = _kinds(figure)
    nodes = [(begin, end) for begin, end, _ in figure.metre.nodes()]
    plain = [index for index, kind in enumerate(kinds) if kind == 1]
    found = []
    for first in plain:
        for last in plain:
            inside = [kind for kind in kinds[first + 1:last] if kind != 1]
            if inside and _is_cell(nodes, figure.borders[first], figure.borders[last]):
                found.append((first, last))
    return found


def least_frame(figure, index):
    """The least frame that contains a border, or None."""
    if figure.kind(index) == 1:
        raise BadNumber("the border is plain")
    return _least_of(frames(figure), index)


def _least_of(found, index):
    """Of some frames the least one that contains a border, or None; each of those that do contains all lesser ones."""
    around = [(last - first, first, last) for first, last in found if first < index < last]
    return min(around)[1:] if around else None


def obstacle(figure):
    """None if there is a grouping, or the first obstacle."""
    kinds = _kinds(figure)
    found = frames(figure)
    least = {index: _least_of(found, index) for index, kind in enumerate(kinds) if kind != 1}
    for index, frame in least.items():
        if kinds[index] not in OWN or frame is None:
            return ("alone", index)
    for index, (first, last) in least.items():
        for other in range(first + 1, last):
            if kinds[other] not in (1, kinds[index]):
                return ("two", index, other)
    return None


def is_obstacle(figure, value):
    """Whether any value is an obstacle."""
    if not isinstance(value, tuple) or len(value) not in (2, 3):
        return False
    word, *indexes = value
    kinds = _kinds(figure)
    if not all([is_number(index) and 0 <= index < len(kinds) and kinds[index] != 1 for index in indexes]):
        return False
    frame = _least_of(frames(figure), indexes[0])
    if len(indexes) == 1:
        return word == "alone" and (kinds[indexes[0]] not in OWN or frame is None)
    index, other = indexes
    return word == "two" and kinds[index] != kinds[other] and frame is not None and frame[0] < other < frame[1]


def _groups(figure):
    """The ascending list of all groups."""
    kinds = _kinds(figure)
    found = []
    for first, last in frames(figure):
        inside = sorted(set([kind for kind in kinds[first + 1:last] if kind != 1]))
        if len(inside) == 1 and inside[0] in OWN:
            found.append((first, last, inside[0]))
    return found


class Ways:
    """The ways through a figure from one plain border to the next one, or to the end of a group.

    many has the number of ways from each plain border to the end of the bar; each of them is a grouping.
    """

    def __init__(self, figure):
        self.kinds = _kinds(figure)
        self.groups = _groups(figure)
        self.last = len(self.kinds) - 1
        self.uneven = [index for index, kind in enumerate(self.kinds) if kind != 1]
        self.many = {self.last: 1}
        for index in range(self.last - 1, -1, -1):
            if self.kinds[index] == 1:
                self.many[index] = sum([self.many[behind] for behind, _ in self.behind(index)])

    def behind(self, index):
        """The pairs of a plain border that follows a plain one, and the group between, or None for a note."""
        found = [(last, (first, last, n)) for first, last, n in self.groups if first == index]
        if index < self.last and self.kinds[index + 1] == 1:
            found.append((index + 1, None))
        return found

    def next_groups(self, index):
        """The groups that can be the next one behind a plain border, ascending."""
        to = min([border for border in self.uneven if border > index])
        return [group for group in self.groups if index <= group[0] < to < group[1] and self.many[group[1]] > 0]


def count_groupings(figure):
    """The number of groupings."""
    return Ways(figure).many[0]


def groupings(figure):
    """All groupings, ascending."""
    ways = Ways(figure)
    last_uneven = max(ways.uneven, default=-1)
    waiting = [((), 0)]
    while waiting:
        groups, index = waiting.pop()
        if index > last_uneven:
            yield groups
        else:
            longer = [((*groups, group), group[1]) for group in ways.next_groups(index)]
            waiting.extend(longer[::-1])


def _is_grouping(figure, thing):
    """Whether any value is a grouping."""
    if not isinstance(thing, tuple) or not all([_is_triple(part) for part in thing]):
        return False
    found = _groups(figure)
    end = 0
    inside = []
    for group in thing:
        if group not in found or group[0] < end:
            return False
        end = group[1]
        inside.extend(list(range(group[0] + 1, group[1])))
    return all([kind == 1 or index in inside for index, kind in enumerate(_kinds(figure))])


def _is_triple(thing):
    """Whether any value is a tuple of three integers."""
    return isinstance(thing, tuple) and len(thing) == 3 and all([is_number(part) for part in thing])


class Notes:
    """The notes of a figure, in the bar and in groups."""

    def __init__(self, figure, book):
        self.figure = figure
        self.bars = Bars(book)

    def metre_in(self, group):
        """The metre of the notes in a group, or in none."""
        return self.figure.metre if group is None else Metre(OWN[group[2]])

    def ends(self, index, group):
        """The two points of the note behind a border, in the bar or in a group."""
        return self._point(index, group), self._point(index + 1, group)

    def _point(self, index, group):
        number, parts = self.figure.borders[index]
        if group is not None:
            first, last, n = group
            begin = self.figure.borders[first]
            end = self.figure.borders[last]
            length = end[0] * begin[1] - begin[0] * end[1]
            number = (number * begin[1] - begin[0] * parts) * end[1] * n
            parts = parts * length
        common = gcd(number, parts)
        # Behind the division the denominator is a power of two.
        return point_of(number // common, (parts // common).bit_length() - 1)

    def signs_of(self, index, group):
        """The fewest signs of the note behind a border."""
        x, y = self.ends(index, group)
        return self.bars.signs_of(self.metre_in(group), x, y)

    def signs_in(self, group):
        """The fewest signs of all notes in a group."""
        return sum([self.signs_of(index, group) for index in range(group[0], group[1])])

    def signs_to(self, behind, group):
        """The fewest signs of all notes in a group, or of the note ahead of a border if it is None."""
        return self.signs_of(behind - 1, None) if group is None else self.signs_in(group)

    def best(self, index, group):
        """The first writing with the fewest signs of the note behind a border."""
        x, y = self.ends(index, group)
        return self.bars.best(self.metre_in(group), x, y)

    def groups_of(self, groups):
        """For each note its group of a grouping, or None."""
        found = [None] * len(self.figure)
        for group in groups:
            for index in range(group[0], group[1]):
                found[index] = group
        return found


def _check_groups(figure, groups):
    if not _is_grouping(figure, groups):
        raise BadGroups("no grouping of the figure")


def grouping_signs(figure, book, groups):
    """The number of signs of a grouping."""
    _check_groups(figure, groups)
    notes = Notes(figure, book)
    return sum([notes.signs_of(index, group) for index, group in enumerate(notes.groups_of(groups))])


def best_grouping(figure, book):
    """The fewest signs of a grouping, and the grouping with the fewest groups that has so many."""
    found = obstacle(figure)
    if found is not None:
        raise NoGrouping(found)
    ways = Ways(figure)
    notes = Notes(figure, book)
    # For each border from which there is a way the triple of signs, number of groups, and groups of the best one.
    best = {ways.last: (0, 0, ())}
    for index in range(ways.last - 1, -1, -1):
        if ways.many.get(index, 0) > 0:
            rest = [(behind, group) for behind, group in ways.behind(index) if behind in best]
            best[index] = min([_with(notes.signs_to(behind, group), group, best[behind]) for behind, group in rest])
    return best[0][0], best[0][2]


def _with(more, group, rest):
    """The triple of a way that begins with a note, group being None, or with a group."""
    total, many, groups = rest
    if group is None:
        return (total + more, many, groups)
    return (total + more, many + 1, (group, *groups))


def floors(figure, book):
    """Floors, with the last entry as great as it can be."""
    limits = _limits(figure, book)
    # A border to which no way leads may have any entry that makes no other one less: all signs of all ways do.
    high = sum([more for row in limits.values() for _, more in row])
    found = []
    for index, kind in enumerate(_kinds(figure)):
        if kind != 1:
            found.append(None)
        else:
            found.append(min([found[begin] + more for begin, more in limits[index]], default=high if index > 0 else 0))
    return found


def _limits(figure, book):
    """For each plain border the pairs (border ahead, signs) of the notes and groups that end there."""
    ways = Ways(figure)
    notes = Notes(figure, book)
    found = {index: [] for index, kind in enumerate(ways.kinds) if kind == 1}
    for index in list(found):
        for behind, group in ways.behind(index):
            found[behind].append((index, notes.signs_to(behind, group)))
    return found


def are_floors(figure, book, value):
    """Whether any value is a list of floors."""
    kinds = _kinds(figure)
    if not isinstance(value, list) or len(value) != len(kinds):
        return False
    if not all([is_number(entry) if kind == 1 else entry is None for entry, kind in zip(value, kinds)]):
        return False
    for index, row in _limits(figure, book).items():
        if not all([value[index] <= value[begin] + more for begin, more in row]):
            return False
    return value[0] == 0


def group_writing(figure, book, groups):
    """For each note 1 or the n of its group, and its first writing with the fewest signs."""
    _check_groups(figure, groups)
    notes = Notes(figure, book)
    found = []
    for index, group in enumerate(notes.groups_of(groups)):
        found.append((1 if group is None else group[2], notes.best(index, group)))
    return found
