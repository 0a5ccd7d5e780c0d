"""barscribe.writings: which values are writings, and all writings of a note."""

import tracemalloc
import unittest
from itertools import combinations, islice
from random import Random

from barscribe.errors import BadNote, BadPoint
from barscribe.metres import Metre
from barscribe.shapes import Book
from barscribe.writings import is_writing, writings
from tests.reference import Bar, dots_of_length, to_point
from tests.values import CUT, EXTRA, OTHERS, SIXTEEN, TREES, some_books


def points_of(rows):
    return [tuple(to_point(time) for time in row) for row in rows]


def short_notes(many, seed, inner):
    """So many times a bar, a book and a note with not too many points inside it, always the same."""
    chance = Random(seed)
    while many > 0:
        bar_tree, depth = chance.choice(TREES), chance.choice([0, 1, 2, 3])
        bar = Bar(bar_tree, depth)
        book = chance.choice([Book(), Book.every(), Book(chance.sample(EXTRA, chance.randrange(1, 40)))])
        x, y = sorted(chance.sample(bar.times, 2))
        if len(bar.between(x, y)) <= inner:
            many -= 1
            yield bar_tree, bar, book, x, y


class IsWritingTest(unittest.TestCase):
    def test_all_rows_of_points(self):
        found = {True: 0, False: 0}
        for tree, bar, book, x, y in short_notes(200, 1, 9):
            metre, inner = Metre(tree), bar.between(x, y)
            for size in range(len(inner) + 1):
                for row in combinations(inner, size):
                    row = (x, *row, y)
                    wanted = bar.is_writing(book.shapes, row)
                    self.assertIs(is_writing(metre, book, points_of([row])[0]), wanted, (tree, book.extra, row))
                    found[wanted] += 1
        self.assertTrue(found[True] > 100 and found[False] > 100, found)

    def test_the_form(self):
        metre, book = Metre(((1, 1), (1, 1))), Book([(1, -1, 1)])
        self.assertIs(is_writing(metre, book, ((0, ""), (3, ""))), True)
        self.assertIs(is_writing(metre, book, ((0, ""), (2, ""), (3, ""))), True)
        wrong = [
            ((0, ""),), (), [(0, ""), (3, "")], ([0, ""], (3, "")), ((0, ""), [3, ""]), ((0, ""), (3, "0")),
            ((3, ""), (0, "")), ((0, ""), (0, "")), ((0, ""), (2, ""), (2, ""), (3, "")), ((0, ""), (2, ""), (1, ""), (3, "")),
            ((0, ""), (3, ""), (2, "")), ((0, ""), (5, "")), ((0, ""), (4, "1")), ((False, ""), (3, "")),
            ((0, ""), None), ((0, ""), (3, ""), None), "ab", {(0, ""): 1, (3, ""): 2}, ((0, ""), (3, ""), ()),
        ]
        for thing in wrong + OTHERS:
            self.assertIs(is_writing(metre, book, thing), False, thing)

    def test_each_sign_has_a_shape_of_the_book(self):
        metre = Metre(((1, 1), (1, 1)))
        for shape, row in (((1, -1, 1), ((0, ""), (3, ""))), ((0, 1, 1), ((1, ""), (3, ""))), ((1, 1, -1), ((1, ""), (4, "")))):
            self.assertTrue(is_writing(metre, Book([shape]), row))
            self.assertFalse(is_writing(metre, Book.every() - Book([shape]), row))
        self.assertFalse(is_writing(metre, Book.every(), ((0, ""), (1, "01"))))
        self.assertFalse(is_writing(metre, Book.every(), ((0, "111"), (1, "111"))))

    def test_levels_that_rise_and_then_fall(self):
        metre, book = Metre(((1, 1), (1, 1))), Book.every()
        self.assertFalse(is_writing(metre, book, ((0, ""), (1, ""), (2, ""))))
        self.assertFalse(is_writing(metre, book, ((0, ""), (1, ""), (2, ""), (3, ""))))
        self.assertFalse(is_writing(metre, book, ((1, ""), (1, "1"), (2, ""))))
        self.assertFalse(is_writing(metre, book, ((0, "1"), (1, ""), (1, "1"), (2, ""))))
        self.assertTrue(is_writing(metre, book, ((1, ""), (2, ""), (3, ""))))
        self.assertTrue(is_writing(metre, book, ((0, "1"), (1, ""), (2, ""), (3, ""), (3, "1"))))

    def test_common_levels(self):
        metre, book = Metre((1, 1)), Book.every()
        one_pair = [((0, "01"), (0, "11")), ((0, "001"), (0, "01"), (0, "11"), (0, "111")), ((0, "1"), (1, "1"))]
        for row in one_pair:
            self.assertTrue(is_writing(metre, book, row), row)
        self.assertFalse(is_writing(metre, book, ((0, "01"), (0, "11"), (1, "01"))), "two pairs")
        self.assertFalse(is_writing(metre, book, ((0, "001"), (0, "011"), (0, "101"), (0, "111"))), "three pairs")
        self.assertFalse(is_writing(metre, book, ((0, "01"), (0, "11"), (1, ""))), "a pair before a stronger point")
        self.assertFalse(is_writing(metre, book, ((1, ""), (1, "01"), (1, "11"))), "a pair behind a stronger point")
        self.assertFalse(is_writing(metre, book, ((0, "11"), (1, ""), (1, "01"), (1, "11"))))

    def test_common_levels_of_pulses(self):
        metre = Metre(((1, 1, 1), (1, 1, 1)))
        self.assertTrue(is_writing(metre, Book(), ((1, ""), (2, ""), (3, ""), (4, ""), (5, ""))))
        self.assertTrue(is_writing(metre, Book(), ((0, "1"), (1, ""), (2, ""), (3, ""), (4, ""), (5, ""), (5, "1"))))

    def test_the_whole_bar(self):
        for tree in TREES + [SIXTEEN]:
            metre, bar = Metre(tree), Bar(tree, 0)
            ends = ((0, ""), (metre.pulses, ""))
            for book in (Book(), Book.every()):
                if dots_of_length(bar.times[-1]) is not None:
                    self.assertTrue(is_writing(metre, book, ends))
                    self.assertEqual(list(writings(metre, book, *ends)), [ends])

    def test_the_whole_bar_without_a_value(self):
        for tree in CUT:
            metre, bar = Metre(tree), Bar(tree, 0)
            cuts = points_of([bar.cuts])[0]
            for book in some_books(4, 7):
                self.assertTrue(is_writing(metre, book, cuts))
                self.assertFalse(is_writing(metre, book, list(cuts)))
                self.assertEqual(list(writings(metre, book, cuts[0], cuts[-1])), [cuts])
                for size in range(min(metre.pulses, 4)):
                    for row in combinations(points_of([bar.times[1:-1]])[0], size):
                        row = (cuts[0], *row, cuts[-1])
                        self.assertEqual(is_writing(metre, book, row), row == cuts)

    def test_thousands_of_bits(self):
        metre, row, number = Metre((1, 1)), [], int("01" * 600, 2)
        while number < 1 << 1200:
            row.append((0, format(number, "01200b").rstrip("0")))
            number += number & -number
        row = (*row, (1, ""))
        self.assertEqual(len(row), 602)
        self.assertTrue(is_writing(metre, Book(), row))
        self.assertFalse(is_writing(metre, Book(), row[:300] + row[301:]))
        self.assertFalse(is_writing(metre, Book(), row[::-1]))

    def test_parameters_by_name(self):
        self.assertIs(is_writing(metre=Metre((1, 1)), book=Book(), thing=((0, ""), (1, ""))), True)


class WritingsTest(unittest.TestCase):
    def test_all_of_them_ascending(self):
        longest = 0
        for tree, bar, book, x, y in short_notes(350, 2, 10):
            found = list(writings(Metre(tree), book, to_point(x), to_point(y)))
            self.assertEqual(found, points_of(bar.writings(book.shapes, x, y)), (tree, book.extra, x, y))
            longest = max(longest, len(found))
        self.assertGreater(longest, 10)

    def test_deeper_ones_are_writings_and_ascend(self):
        chance = Random(3)
        for tree in TREES + [SIXTEEN]:
            metre = Metre(tree)
            for book in some_books(3, 11):
                x, y = sorted((chance.randrange(metre.pulses), format(chance.randrange(1, 32), "05b").rstrip("0")) for _ in "xy")
                if x < y:
                    found = list(islice(writings(metre, book, x, y), 40))
                    self.assertTrue(found)
                    self.assertTrue(all(one < other for one, other in zip(found, found[1:])))
                    for row in found:
                        self.assertEqual((row[0], row[-1], is_writing(metre, book, row)), (x, y, True))

    def test_one_at_a_time(self):
        # This note has 476327 writings, which need far more memory than the first 500 of them.
        metre = Metre((((1, 1, 1), (1, 1, 1), (1, 1)), ((1, 1, 1), (1, 1, 1), (1, 1))))
        book, x, y = Book.every(), (0, "00001"), (15, "11111")
        tracemalloc.start()
        rows = writings(metre, book, x, y)
        found = list(islice(rows, 500))
        _, peak = tracemalloc.get_traced_memory()
        tracemalloc.stop()
        self.assertIs(iter(rows), rows)
        self.assertLess(peak, 20_000_000)
        self.assertEqual(len(found), 500)
        self.assertTrue(all(one < other for one, other in zip(found, found[1:])))
        self.assertTrue(all((row[0], row[-1]) == (x, y) and is_writing(metre, book, row) for row in found))

    def test_errors_at_the_first_request(self):
        metre = Metre((1, 1))
        for thing in OTHERS + [(2, "1"), (0, "0"), [0, ""]]:
            for x, y in ((thing, (1, "")), ((1, ""), thing), (thing, None)):
                rows = writings(metre, Book(), x, y)
                with self.assertRaises(BadPoint) as caught:
                    next(rows)
                self.assertIs(caught.exception.point, thing)
        for x, y in (((1, ""), (1, "")), ((1, ""), (0, "1")), ((2, ""), (0, ""))):
            rows = writings(metre, Book(), x, y)
            with self.assertRaises(BadNote):
                next(rows)

    def test_equal_questions(self):
        metre, book = Metre(((1, 1), (1, 1, 1))), Book.every()
        first = list(writings(metre, book, (0, "11"), (4, "01")))
        self.assertEqual(list(writings(metre=metre, book=book, x=(0, "11"), y=(4, "01"))), first)


if __name__ == "__main__":
    unittest.main()
