"""Signs, their shapes, and books: the sets of the shapes that may be written."""

from barscribe.errors import BadBook, BadPoint
from barscribe.metres import dots_of, is_number, place_level, place_of

PLAIN = ((0, -1, -1), (1, -1, -1), (2, -1, -1))


def shape(metre, x, y):
    """The shape of the sign from x to y; None if there is none."""
    for point in (x, y):
        if not metre.is_point(point):
            raise BadPoint(point)
    if not x < y:
        return None
    depth = max(len(x[1]), len(y[1]))
    return place_shape(metre, depth, place_of(x, depth), place_of(y, depth))


def place_shape(metre, depth, first, last):
    """The shape of the sign from one place of a depth to a later one; None if there is none."""
    dots = dots_of(last - first)
    if dots is None:
        return None
    least = _least_between(metre, depth, first, last)
    before = place_level(metre, depth, first) - least
    behind = place_level(metre, depth, last) - least
    if before > 2 or behind > 2:
        return None
    return (dots, max(before, -1), max(behind, -1))


def _least_between(metre, depth, first, last):
    """The least level of all points between two places of a depth."""
    borders = metre.borders[(first >> depth) + 1:((last - 1) >> depth) + 1]
    if borders:
        return min(borders)
    # In halves of cells, for neighbours have a point between them, too: the strongest place is
    # a multiple of the highest power of two at which the two ends of the inner stretch differ.
    differ = (2 * first) ^ (2 * last - 1)
    return metre.depth + depth + 2 - differ.bit_length()


def is_shape(thing):
    """Whether any value is one of the 48 tuples that can be shapes."""
    if not isinstance(thing, tuple) or len(thing) != 3:
        return False
    if not all([is_number(part) for part in thing]):
        return False
    dots, before, behind = thing
    return 0 <= dots <= 2 and -1 <= before <= 2 and -1 <= behind <= 2


def _gathered(shapes):
    """The ascending tuple of the plain shapes and of these."""
    if not isinstance(shapes, (list, tuple)):
        raise BadBook(0)
    for index, told in enumerate(shapes):
        if not is_shape(told):
            raise BadBook(index)
    return tuple(sorted(set([*PLAIN, *shapes])))


class Book:
    """A book: the plain shapes, and those that it is made of."""

    def __init__(self, shapes=()):
        self.shapes = _gathered(shapes)
        self.extra = tuple([told for told in self.shapes if told not in PLAIN])

    @classmethod
    def every(cls):
        """The book of all shapes."""
        sides = range(-1, 3)
        return cls([(dots, before, behind) for dots in range(3) for before in sides for behind in sides])

    def __eq__(self, other):
        return isinstance(other, Book) and self.shapes == other.shapes

    def __len__(self):
        return len(self.shapes)

    def __contains__(self, thing):
        return is_shape(thing) and thing in self.shapes

    def __or__(self, other):
        if not isinstance(other, Book):
            raise BadBook(0)
        return Book(self.shapes + other.shapes)

    def __and__(self, other):
        if not isinstance(other, Book):
            raise BadBook(0)
        return Book([told for told in self.shapes if told in other.shapes])

    def __sub__(self, other):
        if not isinstance(other, Book):
            raise BadBook(0)
        return Book([told for told in self.shapes if told not in other.shapes])

    # Python calls these three only where the operand on the left is no book.

    def __ror__(self, other):
        raise BadBook(0)

    def __rand__(self, other):
        raise BadBook(0)

    def __rsub__(self, other):
        raise BadBook(0)
