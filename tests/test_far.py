"""barscribe.far: the fewest signs of notes, how many writings have so many, and the first of them."""

import time
import unittest
from fractions import Fraction
from random import Random

from barscribe.errors import BadNote, BadPoint
from barscribe.far import best, fewest, how_many
from barscribe.metres import Metre
from barscribe.shapes import Book
from barscribe.writings import is_writing, writings
from tests.reference import Bar, DeepNote, mirrored_tree, to_point, to_time
from tests.values import CUT, EXTRA, OTHERS, SIXTEEN, TREES, some_books

ALL = (fewest, how_many, best)


def chosen_book(chance):
    return chance.choice([Book(), Book.every(), Book(chance.sample(EXTRA, chance.randrange(1, 40)))])


def digits(chance, many):
    return "".join(chance.choice("01") for _ in range(many - 1)) + "1"


def plain_signs(x, y):
    """The number of signs of a note within a pulse, by plain signs alone: the digits 1 up to and from its strongest point."""
    depth = max(len(x[1]), len(y[1]), 1)
    first, last = [(point[0] << depth) + int(point[1].ljust(depth, "0"), 2) for point in (x, y)]
    power = 1 << (last ^ first).bit_length()
    while (first - 1) // power == last // power:
        power //= 2
    strongest = last // power * power
    return bin(strongest - first).count("1") + bin(last - strongest).count("1")


def least_of(rows):
    """The fewest signs of some writings, how many have so many, and the first one."""
    signs = min(len(row) for row in rows) - 1
    short = [row for row in rows if len(row) == signs + 1]
    return (signs, len(short), min(short))


class ShortTest(unittest.TestCase):
    def ask(self, metre, book, x, y):
        return tuple(asked(metre, book, x, y) for asked in ALL)

    def test_against_all_writings(self):
        chance, longest = Random(1), 0
        for _ in range(700):
            tree, depth = chance.choice(TREES + CUT), chance.choice([0, 1, 2, 3, 4])
            metre, book = Metre(tree), chosen_book(chance)
            x, y = sorted(Fraction(chance.randrange(metre.pulses * 2 ** depth + 1), 2 ** depth) for _ in "xy")
            if x < y <= x + 2:
                x, y = to_point(x), to_point(y)
                rows = list(writings(metre, book, x, y))
                self.assertEqual(self.ask(metre, book, x, y), least_of(rows), (tree, book.extra, x, y))
                longest = max(longest, len(rows))
        self.assertGreater(longest, 20)

    def test_notes_of_many_pulses_against_all_writings(self):
        chance = Random(2)
        for tree in TREES + CUT + [SIXTEEN]:
            metre, book = Metre(tree), chosen_book(chance)
            points = [(pulse, bits) for pulse in range(metre.pulses) for bits in ("", "1")] + [(metre.pulses, "")]
            for _ in range(12):
                x, y = sorted(chance.sample(points, 2))
                self.assertEqual(self.ask(metre, book, x, y), least_of(list(writings(metre, book, x, y))), (tree, x, y))

    def test_the_whole_bar_without_a_value(self):
        for tree in CUT:
            metre, bar = Metre(tree), Bar(tree, 0)
            cuts = tuple(to_point(cut) for cut in bar.cuts)
            for book in [Book([shape]) for shape in EXTRA] + some_books(12, 5):
                self.assertEqual(self.ask(metre, book, cuts[0], cuts[-1]), (len(tree), 1, cuts))

    def test_the_whole_bar_with_a_value(self):
        for tree in TREES[:5] + [SIXTEEN, ((1, 1), (1, 1), (1, 1, 1))]:
            metre = Metre(tree)
            ends = ((0, ""), (metre.pulses, ""))
            for book in some_books(6, 5):
                self.assertEqual(self.ask(metre, book, *ends), (1, 1, ends))


class DeeperTest(unittest.TestCase):
    def test_against_a_search_from_point_to_point(self):
        chance = Random(7)
        for _ in range(260):
            tree = chance.choice(TREES + CUT[:2] + [SIXTEEN])
            metre, book = Metre(tree), chosen_book(chance)
            depth = chance.choice([3, 4, 5, 6, 7] if metre.pulses < 4 else [2, 3, 4])
            bar = Bar(tree, depth)
            for _ in range(3):
                x, y = sorted(chance.sample(bar.times, 2))
                wanted = bar.fewest(book.shapes, x, y)
                x, y = to_point(x), to_point(y)
                self.assertEqual((fewest(metre, book, x, y), how_many(metre, book, x, y)), wanted, (tree, book.extra, x, y))
                row = best(metre, book, x, y)
                self.assertTrue(is_writing(metre, book, row))
                self.assertEqual((row[0], row[-1], len(row)), (x, y, wanted[0] + 1))

    def test_each_shape_alone(self):
        chance = Random(8)
        bar, metre = Bar((1, 1), 6), Metre((1, 1))
        for shape in EXTRA:
            for book in (Book([shape]), Book.every() - Book([shape])):
                for _ in range(3):
                    x, y = sorted(chance.sample(bar.times, 2))
                    found = tuple(asked(metre, book, to_point(x), to_point(y)) for asked in (fewest, how_many))
                    self.assertEqual(found, bar.fewest(book.shapes, x, y), (shape, x, y))

    def test_one_point_deep_and_one_not(self):
        for tree in ((1, 1), (1, 1, 1)):
            metre, bar = Metre(tree), Bar(tree, 6)
            for book in some_books(2, 9):
                for pulse in range(metre.pulses + 1):
                    for place in (1, 21, 63, 64 + 43, 127):
                        x, y = sorted([Fraction(place, 64), Fraction(pulse)])
                        if x < y:
                            found = tuple(asked(metre, book, to_point(x), to_point(y)) for asked in (fewest, how_many))
                            self.assertEqual(found, bar.fewest(book.shapes, x, y), (tree, x, y))


class DigitsTest(unittest.TestCase):
    def test_plain_signs_alone(self):
        chance = Random(10)
        for many in [1, 2, 3, 4, 5, 6, 7, 8] * 20 + [50, 200, 1000, 3000]:
            metre = Metre(chance.choice(TREES))
            pulse = chance.randrange(metre.pulses)
            x, y = sorted([(pulse, digits(chance, many)), (pulse, digits(chance, chance.randrange(many) + 1))])
            for one, other in ((x, y), ((pulse, ""), x), (x, (pulse + 1, "")), ((pulse, ""), y), (y, (pulse + 1, ""))):
                if one < other:
                    wanted = (plain_signs(one, other), 1)
                    self.assertEqual((fewest(metre, Book(), one, other), how_many(metre, Book(), one, other)), wanted)

    def test_ten_thousand_digits(self):
        chance = Random(11)
        metre, bits = Metre(((1, 1), (1, 1))), digits(chance, 10000)
        begin = time.monotonic()
        self.assertEqual(fewest(metre, Book(), (1, bits), (2, "")), bits[:-1].count("0") + 1)
        self.assertEqual(fewest(metre, Book(), (1, ""), (1, bits)), bits.count("1"))
        self.assertEqual(fewest(metre, Book(), (1, "01" * 5000), (2, "")), 5001)
        self.assertEqual(how_many(metre, Book(), (1, bits), (2, "")), 1)
        x, y = sorted([(1, bits), (1, digits(chance, 9999))])
        self.assertEqual(fewest(metre, Book(), x, y), plain_signs(x, y))
        for book in some_books(2, 12):
            signs, ways = fewest(metre, book, (0, bits), (3, bits[::-1] + "1")), how_many(metre, book, (0, bits), (3, bits))
            self.assertTrue(0 < signs <= fewest(metre, Book(), (0, bits), (3, bits[::-1] + "1")))
            self.assertGreater(ways, 0)
        # An ordinary time: the sum of all these takes a few seconds.
        self.assertLess(time.monotonic() - begin, 120)

    def test_numbers_of_writings_may_be_large(self):
        metre = Metre((1, 1))
        found = [how_many(metre, Book.every(), (0, "01" * many), (1, "01" * many)) for many in range(1, 7)]
        bar = Bar((1, 1), 12)
        shapes = Book.every().shapes
        for many in (2, 3):
            x, y = to_time((0, "01" * many)), to_time((1, "01" * many))
            self.assertEqual(found[many - 1], bar.fewest(shapes, x, y)[1])
        self.assertGreater(how_many(metre, Book.every(), (0, "01" * 5000), (1, "11" * 5000)), 10 ** 60)


class BestTest(unittest.TestCase):
    def test_two_hundred_bits(self):
        chance = Random(13)
        for many in (20, 60, 199, 200):
            for book in some_books(3, many):
                tree = chance.choice(TREES)
                metre = Metre(tree)
                x, y = sorted((chance.randrange(metre.pulses), digits(chance, many)) for _ in "xy")
                row = best(metre, book, x, y)
                self.assertTrue(is_writing(metre, book, row))
                self.assertEqual((row[0], row[-1], len(row) - 1), (x, y, fewest(metre, book, x, y)))
                found = (fewest(metre, book, x, y), how_many(metre, book, x, y), row)
                self.assertEqual(found, DeepNote(tree, book.shapes, x, y).answer(), (tree, book.extra, x, y))

    def test_a_search_from_point_to_point_near_the_ends(self):
        chance, several = Random(21), 0
        for _ in range(150):
            tree, book = chance.choice(TREES + CUT[:2]), chosen_book(chance)
            metre = Metre(tree)
            x, y = sorted((chance.randrange(metre.pulses), digits(chance, chance.randrange(1, 14))) for _ in "xy")
            if x < y:
                found = tuple(asked(metre, book, x, y) for asked in ALL)
                self.assertEqual(found, DeepNote(tree, book.shapes, x, y).answer(), (tree, book.extra, x, y))
                several += found[1] > 1
        self.assertGreater(several, 20)

    def test_the_first_of_all(self):
        chance, several = Random(14), 0
        for _ in range(250):
            metre = Metre(chance.choice([1, (1, 1), (1, 1, 1)]))
            book = Book(chance.sample(EXTRA, chance.randrange(10, 45)))
            x, y = sorted((chance.randrange(metre.pulses), digits(chance, chance.choice([3, 4, 5]))) for _ in "xy")
            if x < y:
                rows = list(writings(metre, book, x, y))
                self.assertEqual(best(metre, book, x, y), least_of(rows)[2])
                several += least_of(rows)[1] > 1
        self.assertGreater(several, 20)


class FactsTest(unittest.TestCase):
    def test_other_digits_in_front(self):
        chance = Random(15)
        heads = ["", "0", "1", "01", "110", "0010111", "01" * 700, "1" * 1501]
        for book in some_books(8, 16):
            for _ in range(4):
                x, y = sorted(digits(chance, chance.choice([1, 2, 3, 5, 9, 40])) for _ in "xy")
                if x == y:
                    continue
                found = []
                for tree in (1, (1, 1), ((1, 1), (1, 1, 1))):
                    metre = Metre(tree)
                    for pulse in range(metre.pulses):
                        for head in heads if pulse == 0 else heads[:3]:
                            note = ((pulse, head + x), (pulse, head + y))
                            found.append((fewest(metre, book, *note), how_many(metre, book, *note)))
                self.assertEqual(found, found[:1] * len(found), (book.extra, x, y))

    def test_mirror_images(self):
        chance = Random(17)
        for _ in range(250):
            tree, book = chance.choice(TREES + CUT), chosen_book(chance)
            metre, image = Metre(tree), Metre(mirrored_tree(tree))
            other = Book([(dots, t, s) for dots, s, t in book.shapes])
            depth = chance.choice([0, 1, 2, 3, 6, 30])
            x, y = sorted(Fraction(chance.randrange(metre.pulses * 2 ** depth + 1), 2 ** depth) for _ in "xy")
            if x < y:
                note = (to_point(x), to_point(y))
                back = (to_point(metre.pulses - y), to_point(metre.pulses - x))
                self.assertEqual(fewest(metre, book, *note), fewest(image, other, *back))
                self.assertEqual(how_many(metre, book, *note), how_many(image, other, *back))

    def test_more_shapes_never_need_more_signs(self):
        chance = Random(18)
        for _ in range(60):
            metre, book = Metre(chance.choice(TREES)), chosen_book(chance)
            x, y = sorted((chance.randrange(metre.pulses), digits(chance, chance.randrange(1, 60))) for _ in "xy")
            if x < y:
                signs = [fewest(metre, one, x, y) for one in (Book(), book, Book.every())]
                self.assertEqual(signs, sorted(signs, reverse=True))


class ErrorsTest(unittest.TestCase):
    def test_the_first_that_is_no_point(self):
        metre = Metre((1, 1))
        for asked in ALL:
            for thing in OTHERS + [(2, "1"), (3, ""), (0, "10"), [0, ""], (True, "")]:
                for x, y in ((thing, (1, "")), ((1, ""), thing), (thing, None), (thing, thing)):
                    with self.assertRaises(BadPoint) as caught:
                        asked(metre, Book(), x, y)
                    self.assertIs(caught.exception.point, thing)

    def test_x_not_before_y(self):
        metre = Metre((1, 1))
        for asked in ALL:
            for x, y in (((0, ""), (0, "")), ((1, ""), (0, "111")), ((2, ""), (0, "")), ((0, "11"), (0, "1"))):
                with self.assertRaises(BadNote):
                    asked(metre, Book(), x, y)

    def test_parameters_by_name_and_equal_answers(self):
        tree, shapes = ((1, 1), (1, 1)), [(0, 1, 1), (1, -1, 1)]
        metre, book = Metre(tree), Book(shapes)
        for asked in ALL:
            first = asked(metre, book, (0, "01"), (3, "11"))
            self.assertEqual(asked(y=(3, "11"), x=(0, "01"), book=book, metre=metre), first)
            self.assertEqual(asked(Metre(tree), Book(shapes), (0, "01"), (3, "11")), first)
        self.assertEqual((metre.tree, book, shapes), (tree, Book(shapes), [(0, 1, 1), (1, -1, 1)]))

    def test_kinds_of_answers(self):
        metre = Metre((1, 1))
        self.assertIs(type(fewest(metre, Book(), (0, "1"), (1, ""))), int)
        self.assertIs(type(how_many(metre, Book(), (0, "1"), (1, ""))), int)
        self.assertEqual(best(metre, Book(), (0, "1"), (1, "1")), ((0, "1"), (1, ""), (1, "1")))


if __name__ == "__main__":
    unittest.main()
