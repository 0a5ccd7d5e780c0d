"""The examples of the document that use the modules that are there."""

import unittest

from barscribe.far import best, fewest, how_many
from barscribe.metres import Metre
from barscribe.shapes import Book, shape


class ExamplesTest(unittest.TestCase):
    def setUp(self):
        self.metre = Metre(((1, 1), (1, 1)))

    def test_metre(self):
        metre = self.metre
        found = metre.pulses, metre.depth, [metre.level((pulse, "")) for pulse in range(5)], metre.level((1, "1"))
        self.assertEqual(found, (4, 2, [0, 2, 1, 2, 0], 3))

    def test_shape(self):
        pairs = [((0, ""), (3, "")), ((1, ""), (3, "")), ((0, ""), (1, "01"))]
        self.assertEqual([shape(self.metre, x, y) for x, y in pairs], [(1, -1, 1), (0, 1, 1), None])

    def test_best_and_fewest(self):
        self.assertEqual(best(self.metre, Book(), (0, ""), (3, "")), ((0, ""), (2, ""), (3, "")))
        self.assertEqual(fewest(self.metre, Book([(1, -1, 1)]), (0, ""), (3, "")), 1)

    def test_a_thousand_digits(self):
        note = ((0, "01" * 1000), (1, ""))
        self.assertEqual((fewest(Metre(1), Book(), *note), how_many(Metre(1), Book(), *note)), (1001, 1))

    def test_the_note_that_parts_two_books(self):
        note = ((0, ""), (0, "11"))
        self.assertEqual(fewest(self.metre, Book(), *note), 2)
        self.assertEqual(fewest(self.metre, Book([(1, -1, 1)]), *note), 1)


if __name__ == "__main__":
    unittest.main()
