"""How the fewest signs between the places of a depth follow from those of the depth before."""

from barscribe.metres import dots_of

# What becomes of a side at the next depth: its word, and how far it is behind twice its number.
MOVED = {"stay": ("at", 0), "left": ("in", 0), "middle": ("at", 1), "right": ("in", 1)}


def starts(side):
    """The places of a depth where the writing of a note can have its first one, ascending."""
    word, number = side
    if word == "at":
        return [number]
    return list(range(number + 1, 4 * (number // 4) + 5))


def ends(side):
    """The places of a depth where the writing of a note can have its last one, descending."""
    word, number = side
    if word == "at":
        return [number]
    return list(range(number, 4 * (number // 4) - 1, -1))


def moved_side(side, word):
    """Where a point is at the next depth."""
    new_word, more = MOVED[word]
    return (new_word, 2 * side[1] + more)


def small_sides(x, y):
    """Sides with small numbers that grow as these do: only remainders by 4 and short distances count."""
    number = x[1] % 4
    distance = y[1] - x[1]
    if distance >= 8:
        distance = 8 + (distance - 8) % 4
    return (x[0], number), (y[0], number + distance)


def _zeros(place):
    """How often a place can be halved, at most 3 times."""
    if place % 8 == 0:
        return 3
    return (place & -place).bit_length() - 1


def near_shape(first, last):
    """The shape of the sign from one place to a later one at a depth from 3 on, one of the two being odd."""
    dots = dots_of(last - first)
    if dots is None:
        return None
    most = max([_zeros(place) for place in range(first + 1, last)], default=-1)
    if most > 2:
        return None
    return (dots, max(most - _zeros(first), -1), max(most - _zeros(last), -1))


class Growing:
    """How tables grow by one depth, for a book, whatever the metre is.

    An option is a triple (signs, row, column): so many signs more than the entry of the old table,
    or, row and column being None, so many signs alone.
    """

    def __init__(self, book):
        self.book = book
        self.near = {}
        self.known = {}

    def options(self, x, y, move):
        """For each entry of the table behind a move the list of its options; none for a start behind an end."""
        x, y = small_sides(x, y)
        key = (x, y, move)
        if key not in self.known:
            begins = self._begins(x, move[0])
            finishes = self._finishes(y, move[1])
            self.known[key] = [[self._ways(begin, finish) for finish in finishes] for begin in begins]
        return self.known[key]

    def _has_sign(self, first, last):
        """Whether a sign of the book leads from one place to another one, one of the two being odd."""
        if not 0 < last - first < 8:
            return False
        key = (first % 8, last - first)
        if key not in self.near:
            self.near[key] = near_shape(key[0], key[0] + key[1]) in self.book
        return self.near[key]

    def _begins(self, x, word):
        """Each new start with the triples (signs, row, place) that lead from it to a start of before, doubled."""
        old = [2 * place for place in starts(x)]
        found = []
        for place in starts(moved_side(x, word)):
            if place % 2 == 0:
                found.append((place, [(0, old.index(place), place)]))
            else:
                found.append((place, [(1, row, to) for row, to in enumerate(old) if self._has_sign(place, to)]))
        return found

    def _finishes(self, y, word):
        """Each new end with the triples (signs, column, place) that lead to it from an end of before, doubled."""
        old = [2 * place for place in ends(y)]
        found = []
        for place in ends(moved_side(y, word)):
            if place % 2 == 0:
                found.append((place, [(0, old.index(place), place)]))
            else:
                found.append((place, [(1, column, by) for column, by in enumerate(old) if self._has_sign(by, place)]))
        return found

    def _ways(self, begin, finish):
        """The options of the entry for a new start and a new end."""
        first, leaving = begin
        last, arriving = finish
        found = []
        if first % 2 == 1 and first == last:
            found.append((0, None, None))
        if first % 2 == 1 and last % 2 == 1 and self._has_sign(first, last):
            found.append((1, None, None))
        for signs, row, to in leaving:
            for more, column, by in arriving:
                if to <= by:
                    found.append((signs + more, row, column))
        return found


def grown(options, table):
    """The table of the next depth, with the fewest signs alone."""
    return [[_least(ways, table) for ways in row] for row in options]


def _least(ways, table):
    if not ways:
        return None
    return min([signs if row is None else signs + table[row][column] for signs, row, column in ways])
