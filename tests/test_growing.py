"""barscribe.growing and barscribe.tops: the tables of points 11 and 13 of the document."""

import unittest
from random import Random

from barscribe.far import fewest
from barscribe.growing import Growing, ends, grown, moved_side, small_sides, starts
from barscribe.metres import Metre, point_of
from barscribe.tops import Top, top_side
from tests.values import TREES, some_books

MOVES = {"at": ["stay"], "in": ["left", "middle", "right"]}


def can_stand(x, y):
    return x[1] < y[1] or (x[1] == y[1] and y[0] == "in")


def table_by_notes(metre, book, depth, x, y):
    """The table of point 11, each entry as a note of its own."""
    return [[entry_by_note(metre, book, depth, start, end) for end in ends(y)] for start in starts(x)]


def entry_by_note(metre, book, depth, start, end):
    if start >= end:
        return 0 if start == end else None
    return fewest(metre, book, point_of(start, depth), point_of(end, depth))


class SidesTest(unittest.TestCase):
    def test_starts_and_ends(self):
        self.assertEqual([starts(("at", 5)), ends(("at", 5))], [[5], [5]])
        self.assertEqual([starts(("in", number)) for number in range(4, 8)], [[5, 6, 7, 8], [6, 7, 8], [7, 8], [8]])
        self.assertEqual([ends(("in", number)) for number in range(4, 8)], [[4], [5, 4], [6, 5, 4], [7, 6, 5, 4]])

    def test_sides_at_depth_two(self):
        points = {(3, ""): ("at", 12), (3, "1"): ("at", 14), (3, "11"): ("at", 15), (3, "101"): ("in", 14), (0, "001"): ("in", 0)}
        self.assertEqual([top_side(point) for point in points], list(points.values()))

    def test_moves(self):
        found = [moved_side(side, word) for side, word in ((("at", 3), "stay"), (("in", 3), "left"), (("in", 3), "right"))]
        self.assertEqual(found, [("at", 6), ("in", 6), ("in", 7)])
        self.assertEqual(moved_side(("in", 3), "middle"), ("at", 7))


class TablesTest(unittest.TestCase):
    def test_tables_grow_to_those_of_the_notes(self):
        chance = Random(1)
        for book in some_books(4, 31):
            metre = Metre(chance.choice(TREES))
            for _ in range(12):
                words = [chance.choice(["at", "in"]) for _ in "xy"]
                x, y = [(word, chance.randrange(4 * metre.pulses)) for word in words]
                if not can_stand(x, y):
                    continue
                entries = Top(metre, book, 4 * metre.pulses).table(x, y)
                table, growing = [[entry and entry[0] for entry in row] for row in entries], Growing(book)
                for depth in range(2, 7):
                    self.assertEqual(table, table_by_notes(metre, book, depth, x, y), (x, y))
                    moves = [(one, other) for one in MOVES[x[0]] for other in MOVES[y[0]]]
                    moves = [move for move in moves if can_stand(moved_side(x, move[0]), moved_side(y, move[1]))]
                    move = chance.choice(moves)
                    table = grown(growing.options(x, y, move), table)
                    x, y = moved_side(x, move[0]), moved_side(y, move[1])

    def test_only_remainders_and_short_distances_count(self):
        for word, number, other, more in (("at", 3, "in", 2), ("in", 5, "in", 0), ("in", 2, "at", 7), ("at", 1, "at", 8)):
            for far in (0, 4, 400, 4 * 10 ** 50):
                found = small_sides((word, number + far), (other, number + far + more))
                self.assertEqual(found, small_sides((word, number), (other, number + more)))
        for distance in (8, 9, 10, 11):
            for far in (4, 40, 4 * 10 ** 50):
                self.assertEqual(small_sides(("in", 1), ("in", 1 + distance + far)), (("in", 1), ("in", 1 + distance)))


if __name__ == "__main__":
    unittest.main()
