"""barscribe.shapes: the shapes of signs, and books."""

import unittest
from itertools import product
from random import Random

from barscribe.errors import BadBook, BadPoint
from barscribe.metres import Metre
from barscribe.shapes import Book, is_shape, shape
from tests.reference import Bar, to_point
from tests.values import EXTRA, OTHERS, SHAPES, SIXTEEN, TREES, some_books

PLAIN = [(0, -1, -1), (1, -1, -1), (2, -1, -1)]


def counted_shape(metre, x, y):
    """The shape of a sign within a pulse, by counting over all points between, of one depth more, too."""
    depth = max(len(x[1]), len(y[1])) + 1
    first, last = [int("1" + bits.ljust(depth, "0"), 2) for bits in (x[1], y[1])]
    last = last + ((y[0] - x[0]) << depth)

    def level(number):
        # Behind the 1 in front stand the digits; the number of digits up to the last 1 is the depth of the point.
        digits = bin(number)[3:].rstrip("0")
        return metre.depth + len(digits) if digits else 0

    least = min(level(number) for number in range(first + 1, last))
    odd, parts = last - first, (level(first) - least, level(last) - least)
    while odd % 2 == 0:
        odd //= 2
    if odd not in (1, 3, 7) or max(parts) > 2:
        return None
    return ((1, 3, 7).index(odd), max(parts[0], -1), max(parts[1], -1))


class ShapeTest(unittest.TestCase):
    def test_all_signs_of_some_bars(self):
        seen = set()
        for tree in TREES:
            for depth in (0, 2) if tree != (1, 1) else (0, 1, 2, 3, 4, 5):
                metre, bar = Metre(tree), Bar(tree, depth)
                for x, y in product(bar.times, bar.times):
                    wanted = bar.find_shape(x, y) if x < y else None
                    self.assertEqual(shape(metre, to_point(x), to_point(y)), wanted, (tree, x, y))
                    seen.add(wanted)
        # Dotted, plain, with -1, 0, 1 and 2 at both sides, and none at all.
        self.assertTrue({None, (0, -1, -1), (1, -1, -1), (2, -1, 2), (0, 2, 2), (1, 0, 1), (0, 0, 1)} <= seen)

    def test_the_longest_metre(self):
        metre, bar = Metre(SIXTEEN), Bar(SIXTEEN, 1)
        for x, y in product(bar.times, bar.times):
            self.assertEqual(shape(metre, to_point(x), to_point(y)), bar.find_shape(x, y) if x < y else None)

    def test_dots(self):
        metre = Metre((((1, 1), (1, 1)), ((1, 1), (1, 1))))
        lengths = {1: 0, 2: 0, 3: 1, 4: 0, 5: None, 6: 1, 7: 2, 8: 0}
        for length, dots in lengths.items():
            found = shape(metre, (0, ""), (length, ""))
            self.assertEqual(found and found[0], dots)
        self.assertEqual(shape(metre, (0, ""), (1, "11"))[0], 2)
        self.assertIsNone(shape(metre, (0, ""), (1, "01")))
        self.assertIsNone(shape(metre, (0, ""), (2, "01")))

    def test_a_stronger_end_is_minus_one(self):
        metre = Metre(((1, 1), (1, 1)))
        self.assertEqual(shape(metre, (0, ""), (3, "")), (1, -1, 1))
        self.assertEqual(shape(metre, (1, ""), (4, "")), (1, 1, -1))
        self.assertEqual(shape(metre, (0, ""), (4, "")), (0, -1, -1))

    def test_none_above_two(self):
        metre = Metre((1, 1))
        self.assertEqual(shape(metre, (0, "11"), (1, "")), (0, -1, -1))
        self.assertEqual(shape(metre, (0, "11"), (1, "01")), (0, 2, 2))
        self.assertIsNone(shape(metre, (0, "111"), (1, "001")))
        self.assertEqual(shape(metre, (0, "001"), (1, "")), (2, 2, -1))
        self.assertIsNone(shape(metre, (0, "0001"), (1, "0001")))
        self.assertIsNone(shape(Metre(SIXTEEN), (1, ""), (15, "")))
        self.assertEqual(shape(Metre(SIXTEEN), (6, ""), (14, "")), (0, 2, 2))

    def test_none_if_the_length_is_no_value(self):
        for tree in TREES:
            metre, bar = Metre(tree), Bar(tree, 1)
            for x, y in product(bar.times, bar.times):
                if x < y and (y - x).numerator in (5, 9, 10, 11, 13):
                    self.assertIsNone(shape(metre, to_point(x), to_point(y)))

    def test_none_if_x_is_not_before_y(self):
        metre = Metre((1, 1))
        points = [(0, ""), (0, "01"), (0, "1"), (0, "11"), (1, ""), (1, "1"), (2, "")]
        for at, x in enumerate(points):
            for y in points[:at + 1]:
                self.assertIsNone(shape(metre, x, y))

    def test_the_first_that_is_no_point(self):
        metre = Metre((1, 1))
        for thing in OTHERS + [(2, "1"), (3, ""), (0, "10"), [0, ""]]:
            for x, y in ((thing, (1, "")), ((1, ""), thing), (thing, None), (thing, thing)):
                with self.assertRaises(BadPoint) as caught:
                    shape(metre, x, y)
                self.assertIs(caught.exception.point, thing)

    def test_deep_signs_by_counting(self):
        chance = Random(4)
        for many in (100, 400, 3000, 10000):
            metre = Metre(chance.choice(TREES))
            for _ in range(12):
                head = "".join(chance.choice("01") for _ in range(many - 6))
                numbers = sorted(chance.sample(range(64), 2))
                bits = [(head + format(number, "06b")).rstrip("0") for number in numbers]
                x, y = [(0, row) for row in bits]
                self.assertEqual(shape(metre, x, y), counted_shape(metre, x, y), (many, numbers))

    def test_deep_signs_over_a_strong_point(self):
        for many in (100, 1000, 10000):
            zeros, ones = "0" * many, "1" * many
            for tree in ((1, 1), ((1, 1), (1, 1))):
                metre = Metre(tree)
                self.assertIsNone(shape(metre, (0, ones), (1, zeros + "1")))
                self.assertIsNone(shape(metre, (0, ones), (1, zeros[1:] + "1")))
                self.assertEqual(shape(metre, (0, ones), (1, "")), (0, -1, -1))
                self.assertEqual(shape(metre, (1, ""), (1, zeros + "11")), (1, -1, 1))
                self.assertEqual(shape(metre, (1, ""), (1, zeros + "111")), (2, -1, 2))
                self.assertIsNone(shape(metre, (1, ""), (1, zeros + "1111")))
                self.assertEqual(shape(metre, (1, ""), (1, zeros + "1")), (0, -1, -1))
                self.assertEqual(shape(metre, (0, ones + "01"), (0, ones + "11")), (0, 1, 1))
                self.assertEqual(shape(metre, (0, ""), (0, zeros + "1")), (0, -1, -1))

    def test_parameters_by_name(self):
        self.assertEqual(shape(metre=Metre((1, 1)), x=(0, ""), y=(1, "1")), (1, -1, 1))
        self.assertEqual(shape(y=(1, "1"), x=(0, ""), metre=Metre((1, 1))), (1, -1, 1))


class IsShapeTest(unittest.TestCase):
    def test_the_48_tuples(self):
        self.assertEqual(len(SHAPES), 48)
        found = [row for row in product(range(-3, 5), repeat=3) if is_shape(row)]
        self.assertEqual(found, sorted(SHAPES))

    def test_any_value(self):
        wrong = [
            [0, -1, -1], (True, -1, -1), (0, False, -1), (0, -1, True), (0, -1), (0, -1, -1, -1), ("0", -1, -1), (0, None, 0),
            (0, -1, (0,)), ((0, -1, -1),), (3, 0, 0), (0, 3, 0), (0, 0, 3), (-1, 0, 0), (0, -2, 0), (0, 0, -2),
            (10 ** 60, 0, 0), "abc", {0: 1, 1: 2, 2: 3}, (0, [], 0), (Book(), 0, 0),
        ]
        for thing in wrong + OTHERS:
            self.assertIs(is_shape(thing), False, thing)
        self.assertIs(is_shape(thing=(2, 2, 2)), True)


class BookTest(unittest.TestCase):
    def test_the_plain_book(self):
        for book in (Book(), Book([]), Book(()), Book(PLAIN), Book(shapes=())):
            self.assertEqual((book.shapes, book.extra, len(book)), (tuple(PLAIN), (), 3))

    def test_told_in_any_order_and_several_times(self):
        chance = Random(1)
        for many in (1, 2, 5, 20, 45):
            told = chance.sample(EXTRA, many)
            wanted = Book(told)
            self.assertEqual(wanted.extra, tuple(sorted(told)))
            self.assertEqual(wanted.shapes, tuple(sorted(told + PLAIN)))
            self.assertEqual(len(wanted), many + 3)
            for rows in (tuple(told), told[::-1], told + told, told + PLAIN, PLAIN + PLAIN + told[::-1] + told):
                self.assertEqual((Book(rows).shapes, Book(rows).extra), (wanted.shapes, wanted.extra))

    def test_every(self):
        self.assertEqual(Book.every().shapes, tuple(sorted(SHAPES)))
        self.assertEqual(Book.every().extra, tuple(sorted(EXTRA)))
        self.assertEqual((len(Book.every()), Book.every()), (48, Book(SHAPES)))
        self.assertIsInstance(Book.every(), Book)

    def test_the_index_of_the_first_that_is_none(self):
        good = (0, 1, 1)
        for thing in OTHERS + [[0, 1, 1], (0, 1), (0, True, 1), (0, 3, 1)]:
            for at in range(4):
                rows = [good] * at + [thing, good, None]
                for shapes in (rows, tuple(rows)):
                    with self.assertRaises(BadBook) as caught:
                        Book(shapes)
                    self.assertEqual(caught.exception.index, at)

    def test_no_list(self):
        for thing in (None, True, False, 0, 3, "", "abc", {}, {(0, 1, 1): 1}, Book(), Book.every(), Metre(1), BadBook(3)):
            with self.assertRaises(BadBook) as caught:
                Book(thing)
            self.assertEqual(caught.exception.index, 0)
            with self.assertRaises(BadBook):
                Book(shapes=thing)

    def test_one_shape_is_no_list_of_shapes(self):
        with self.assertRaises(BadBook) as caught:
            Book((0, 1, 1))
        self.assertEqual(caught.exception.index, 0)

    def test_a_list_stays_and_has_no_later_effect(self):
        rows = [(2, 2, 2), (0, -1, -1), (0, 1, 1), (2, 2, 2)]
        copy = list(rows)
        book = Book(rows)
        self.assertEqual(rows, copy)
        rows.append((1, 1, 1))
        rows[0] = None
        self.assertEqual(book, Book(copy))
        self.assertNotIn((1, 1, 1), book)

    def test_in_for_any_value(self):
        for book in some_books(8, 2):
            for told in SHAPES:
                self.assertIs(told in book, told in book.shapes)
            for thing in OTHERS + [[0, -1, -1], (False, -1, -1), (True, -1, -1), (0, -1), (0, 3, 3), [(0, -1, -1)]]:
                self.assertIs(thing in book, False)

    def test_or_and_minus(self):
        books = some_books(8, 3)
        for one, other in product(books, books):
            first, second = set(one.shapes), set(other.shapes)
            self.assertEqual((one | other).shapes, tuple(sorted(first | second)))
            self.assertEqual((one & other).shapes, tuple(sorted(first & second)))
            self.assertEqual((one - other).shapes, tuple(sorted(first - second | set(PLAIN))))
            for book in (one | other, one & other, one - other):
                self.assertIsInstance(book, Book)
                self.assertEqual([told for told in PLAIN if told in book], PLAIN)
            self.assertEqual((set(one.shapes), set(other.shapes)), (first, second))

    def test_an_operand_that_is_no_book(self):
        book = Book([(0, 1, 1)])
        for thing in OTHERS + [[(0, 1, 1)], ((0, 1, 1),), (0, 1, 1)]:
            if not isinstance(thing, Book):
                calls = [
                    lambda: book | thing, lambda: book & thing, lambda: book - thing,
                    lambda: thing | book, lambda: thing & book, lambda: thing - book,
                ]
                for call in calls:
                    with self.assertRaises(BadBook) as caught:
                        call()
                    self.assertEqual(caught.exception.index, 0)

    def test_equal_if_the_shapes_are(self):
        books = some_books(8, 5)
        for one, other in product(books, books):
            self.assertIs(one == other, one.shapes == other.shapes)
            self.assertIs(one != other, one.shapes != other.shapes)
        self.assertEqual(Book([(0, 1, 1), (0, 0, 1)]), Book([(0, 0, 1), (0, 1, 1), (0, 0, 1)]))
        for thing in OTHERS + [Book([(0, 1, 1)]).shapes, ((0, 1, 1),)]:
            if not isinstance(thing, Book):
                self.assertIs(Book([(0, 1, 1)]) == thing, False)


if __name__ == "__main__":
    unittest.main()
