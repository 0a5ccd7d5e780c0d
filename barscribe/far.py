"""The fewest signs of notes of any depth."""

from barscribe.growing import Growing, ends, grown, moved_side, small_sides, starts
from barscribe.metres import point_of
from barscribe.tops import DEPTH, Top, merged, top_side
from barscribe.writings import check_note


def fewest(metre, book, x, y):
    """The least number of signs of a note."""
    check_note(metre, x, y)
    return Far(metre, book, last_place(y)).signs_of(x, y)


def how_many(metre, book, x, y):
    """The number of writings of a note that have the fewest signs."""
    check_note(metre, x, y)
    return Far(metre, book, last_place(y)).entry_of(x, y, False)[1]


def best(metre, book, x, y):
    """The first writing of a note that has the fewest signs."""
    check_note(metre, x, y)
    return Far(metre, book, last_place(y)).entry_of(x, y, True)[2]


def last_place(y):
    """The last place of depth 2 that a note with this end can need."""
    return ends(top_side(y))[0]


def moves_of(x, y):
    """The moves that lead from the sides of a note at depth 2 to the note."""
    depth = max(DEPTH, len(x[1]), len(y[1]))
    return [(_word(x[1], at), _word(y[1], at)) for at in range(DEPTH, depth)]


def _word(bits, at):
    """Where a point with these bits is from the depth at on, seen from there."""
    if len(bits) <= at:
        return "stay"
    if len(bits) == at + 1:
        return "middle"
    return "left" if bits[at] == "0" else "right"


class Far:
    """The notes of a metre and a book, as far as a last place of depth 2."""

    def __init__(self, metre, book, last):
        self.top = Top(metre, book, last)
        self.growing = Growing(book)

    def signs_of(self, x, y):
        """The fewest signs of a note."""
        first = top_side(x)
        second = top_side(y)
        table = self.top.signs(first, second)
        for move in moves_of(x, y):
            table = grown(self.growing.options(first, second, move), table)
            first, second = small_sides(moved_side(first, move[0]), moved_side(second, move[1]))
        return table[0][0]

    def entry_of(self, x, y, told):
        """The fewest signs of a note, how many writings have so many, and the first of them if it is to be told."""
        first = top_side(x)
        second = top_side(y)
        table = self.top.table(first, second)
        if not told:
            table = [[_untold(entry) for entry in row] for row in table]
        depth = DEPTH
        for move in moves_of(x, y):
            options = self.growing.options(first, second, move)
            first = moved_side(first, move[0])
            second = moved_side(second, move[1])
            depth = depth + 1
            heads = _new_points(starts(first), depth, told)
            tails = _new_points(ends(second), depth, told)
            table = [_row(row, table, head, tails) for row, head in zip(options, heads)]
        return table[0][0]


def _untold(entry):
    """An entry without the points of its writing."""
    return None if entry is None else (entry[0], entry[1], ())


def _new_points(places, depth, told):
    """For each place the tuple of its point, empty if the point was one before, or is not to be told."""
    return [(point_of(place, depth),) if told and place % 2 == 1 else () for place in places]


def _row(options, table, head, tails):
    """The entries for a start and all ends."""
    return [_entry(ways, table, head, tail) for ways, tail in zip(options, tails)]


def _entry(ways, table, head, tail):
    """The entry for a start and an end, head and tail being what they add to the writings of before."""
    found = None
    for signs, row, column in ways:
        if row is None:
            entry = (signs, 1, head + tail if signs > 0 else head)
        else:
            fewer, many, points = table[row][column]
            entry = (signs + fewer, many, head + points + tail)
        found = merged(found, entry)
    return found
