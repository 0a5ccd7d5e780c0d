"""The examples of the document."""

import unittest

from barscribe.alike import compare
from barscribe.canons import exact_entries, fewest_entries, most_entries
from barscribe.far import best, fewest, how_many
from barscribe.groups import Figure, best_grouping, frames, obstacle
from barscribe.hearing import allowed, heard
from barscribe.loops import are_heights, best_loop
from barscribe.losses import greatest_loss, loss
from barscribe.metres import Metre
from barscribe.moving import best_row, pieces, signs, ties
from barscribe.needs import used
from barscribe.rhythms import Rhythm
from barscribe.rounds import clashes, most_together, next_together
from barscribe.scores import Score
from barscribe.shapes import Book, shape


class ExamplesTest(unittest.TestCase):
    def setUp(self):
        self.metre = Metre(((1, 1), (1, 1)))

    def test_metre(self):
        metre = self.metre
        found = metre.pulses, metre.depth, [metre.level((pulse, "")) for pulse in range(5)], metre.level((1, "1"))
        self.assertEqual(found, (4, 2, [0, 2, 1, 2, 0], 3))

    def test_shape(self):
        pairs = [((0, ""), (3, "")), ((1, ""), (3, "")), ((0, ""), (1, "01"))]
        self.assertEqual([shape(self.metre, x, y) for x, y in pairs], [(1, -1, 1), (0, 1, 1), None])

    def test_best_and_fewest(self):
        self.assertEqual(best(self.metre, Book(), (0, ""), (3, "")), ((0, ""), (2, ""), (3, "")))
        self.assertEqual(fewest(self.metre, Book([(1, -1, 1)]), (0, ""), (3, "")), 1)

    def test_a_thousand_digits(self):
        note = ((0, "01" * 1000), (1, ""))
        self.assertEqual((fewest(Metre(1), Book(), *note), how_many(Metre(1), Book(), *note)), (1001, 1))

    def test_the_note_that_parts_two_books(self):
        note = ((0, ""), (0, "11"))
        self.assertEqual(fewest(self.metre, Book(), *note), 2)
        self.assertEqual(fewest(self.metre, Book([(1, -1, 1)]), *note), 1)
        self.assertEqual(compare(self.metre, Book(), self.metre, Book([(1, -1, 1)])), ("parted", *note))

    def test_losses(self):
        metre = Metre((1, 1))
        self.assertEqual(loss(metre, Book(), metre, Book.every(), (0, "01"), (1, "")), 1)
        self.assertEqual(greatest_loss(metre, Book.every(), metre, Book())[:2], ("greatest", 0))

    def test_used(self):
        found = used(Metre((1, 1)), Book([(1, 1, -1)]), (0, "01"), (1, ""))
        self.assertEqual(found, (((1, 1, -1),), ((1, 1, -1),)))

    def test_hearing(self):
        found = heard(Metre((1, 1)), Book(), [(1, 3)], (1, 12), 3)
        self.assertEqual(found, ("heard", 4, ((0, "01"),), {(0, (0, "01")): 1, (0, (0, "011")): 2}))
        self.assertEqual(allowed(Metre((1, 1)), (1, 3), (1, 12), 3), [(0, "01"), (0, "011")])

    def test_rhythms_and_rows(self):
        rhythm = Rhythm(4, [((0, ""), "tone"), ((1, "1"), "tone"), ((3, ""), "rest")])
        self.assertEqual((rhythm.span(1), rhythm.at((2, ""))), (((1, "1"), (3, "")), 1))
        self.assertEqual(rhythm.part(1, 4).notes, (((0, ""), "tone"), ((0, "1"), "tone"), ((2, ""), "rest")))
        row = [Metre((1, 1)), Metre((1, 1))]
        self.assertEqual(pieces(rhythm, row)[1], [(1, (0, ""), (1, "")), (2, (1, ""), (2, ""))])
        self.assertEqual((signs(rhythm, row, Book()), ties(rhythm, row, Book())), (5, 2))
        self.assertEqual(best_row(rhythm, [Metre(1), Metre((1, 1))], Book()), (5, (1, 1)))

    def test_loops(self):
        rhythm = Rhythm(2, [((0, ""), "tone"), ((0, "1"), "tone"), ((1, "1"), "rest")])
        self.assertEqual(best_loop(rhythm, [Metre((1, 1))], Book())[0], (2, 1))
        self.assertIs(are_heights(rhythm, [Metre((1, 1))], Book(), (2, 1), [0, 0]), True)

    def test_groups(self):
        figure = Figure(Metre((1, 1)), [(0, 1), (1, 3), (1, 1), (2, 1)])
        self.assertEqual((frames(figure), best_grouping(figure, Book())), ([(0, 2), (0, 3)], (4, ((0, 2, 3),))))
        self.assertEqual(obstacle(Figure(Metre((1, 1)), [(0, 1), (1, 3), (6, 5), (2, 1)])), ("two", 1, 2))

    def test_rounds(self):
        voices = [(4, (0,), 0), (6, (2,), 0), (6, (5,), 1)]
        self.assertEqual((most_together(voices), next_together(voices, 2, 9)), ((2, 8, (0, 1)), (12, (0, 2))))
        self.assertEqual(clashes((4, (0,), 0), (6, (1,), 0)), (2, (1,)))

    def test_canons(self):
        self.assertEqual((most_entries((5, (0, 1))), fewest_entries((5, (0, 1)))), (((0, 2), None), ((0, 1, 3), None)))
        self.assertEqual(len(exact_entries((8, (0, 4)))[0]), 8)

    def test_scores(self):
        score = Score([Metre((1, 1))], Book())
        found = score.do(("part", "a")), score.do(("play", "a", (0, "1"), (1, "1"), "tone")), score.do(("undo",))
        self.assertEqual(found, (1, 4, 1))


if __name__ == "__main__":
    unittest.main()
