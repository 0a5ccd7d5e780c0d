"""barscribe.moving: points 41 and 42 of the document."""

import time
import unittest
from random import Random

from barscribe.errors import BadRow
from barscribe.far import best, fewest
from barscribe.metres import Metre
from barscribe.moving import best_row, bounds, is_bounds, pieces, signs, ties, written
from barscribe.rhythms import Rhythm
from barscribe.shapes import Book
from barscribe.writings import is_writing
from tests.notes import chosen_book
from tests.test_rhythms import REST, TONE, some_rhythm
from tests.values import CUT, OTHERS, SIXTEEN, TREES

SMALL = [1, (1, 1), (1, 1, 1), ((1, 1), 1), (1, (1, 1)), ((1, 1), (1, 1)), CUT[0], CUT[1]]


def pieces_by_words(rhythm, row):
    """For each bar each note that sounds in it, from the later begin to the earlier end."""
    found, begin = [], 0
    for metre in row:
        end = begin + metre.pulses
        bar = []
        for index in range(len(rhythm)):
            first, last = rhythm.span(index)
            x, y = max(first, (begin, "")), min(last, (end, ""))
            if x < y:
                bar.append((index, (x[0] - begin, x[1]), (y[0] - begin, y[1])))
        found.append(bar)
        begin = end
    return found


def rows_by_words(length, metres):
    """The tuples of the indexes of all rows that fit."""
    if length == 0:
        return [()]
    found = []
    for index, metre in enumerate(metres):
        if metre.pulses <= length:
            found.extend((index, *rest) for rest in rows_by_words(length - metre.pulses, metres))
    return found


def some_row(chance, length):
    row = []
    while length:
        trees = [tree for tree in SMALL if Metre(tree).pulses <= length]
        row.append(Metre(chance.choice(trees)))
        length -= row[-1].pulses
    return row


def is_bounds_by_words(rhythm, metres, book, value):
    """Point 42, word by word, for a list of integers of the right length."""
    if value[0] != 0:
        return False
    for metre in metres:
        for pulse in range(rhythm.length - metre.pulses + 1):
            part = rhythm.part(pulse, pulse + metre.pulses)
            if value[pulse + metre.pulses] > value[pulse] + signs(part, [metre], book):
                return False
    return True


class PiecesTest(unittest.TestCase):
    def test_against_the_words(self):
        chance = Random(1)
        for _ in range(80):
            rhythm = some_rhythm(chance, chance.randrange(1, 16), chance.randrange(1, 16))
            row = some_row(chance, rhythm.length)
            found = pieces(rhythm, row)
            self.assertEqual(found, pieces_by_words(rhythm, row))
            self.assertTrue(type(found) is list and all(type(bar) is list for bar in found))
            self.assertEqual(pieces(row=tuple(row), rhythm=rhythm), found)

    def test_notes_of_several_bars_and_at_bar_lines(self):
        rhythm = Rhythm(8, [((0, ""), REST), ((1, "1"), TONE), ((6, ""), TONE)])
        row = [Metre((1, 1))] * 4
        self.assertEqual(pieces(rhythm, row), [
            [(0, (0, ""), (1, "1")), (1, (1, "1"), (2, ""))], [(1, (0, ""), (2, ""))], [(1, (0, ""), (2, ""))],
            [(2, (0, ""), (2, ""))],
        ])
        self.assertEqual((signs(rhythm, row, Book()), ties(rhythm, row, Book())), (2 + 1 + 1 + 1 + 1, 2))
        self.assertEqual(written(rhythm, row, Book())[0], [(0, ((0, ""), (1, ""), (1, "1"))), (1, ((1, "1"), (2, "")))])


class SignsTest(unittest.TestCase):
    def test_sums_of_the_pieces(self):
        chance = Random(2)
        for _ in range(60):
            rhythm = some_rhythm(chance, chance.randrange(1, 14), chance.randrange(1, 14), chance.choice([1, 3, 9]))
            row, book = some_row(chance, rhythm.length), chosen_book(chance)
            many = [0] * len(rhythm)
            for metre, bar in zip(row, pieces_by_words(rhythm, row)):
                for index, x, y in bar:
                    many[index] += fewest(metre, book, x, y)
            self.assertEqual(signs(rhythm, row, book), sum(many))
            tones = [number - 1 for number, (_, sound) in zip(many, rhythm.notes) if sound == TONE]
            self.assertEqual(ties(rhythm, row, book), sum(tones))
            self.assertEqual(signs(book=book, row=tuple(row), rhythm=rhythm), sum(many))
            self.assertEqual(ties(book=book, row=tuple(row), rhythm=rhythm), sum(tones))

    def test_rests_have_signs_and_no_ties(self):
        row = [Metre((1, 1))] * 3
        for sound, more in ((TONE, 3), (REST, 0)):
            rhythm = Rhythm(6, [((0, ""), sound), ((4, "1"), REST)])
            self.assertEqual(pieces(rhythm, row)[2], [(0, (0, ""), (0, "1")), (1, (0, "1"), (2, ""))])
            self.assertEqual((signs(rhythm, row, Book()), ties(rhythm, row, Book())), (1 + 1 + 1 + 2, more - (more > 0)))

    def test_the_whole_bar_without_a_value(self):
        rhythm = Rhythm(5, [((0, ""), TONE)])
        for tree, many in ((CUT[0], 2), (CUT[1], 3)):
            for book in (Book(), Book.every()):
                self.assertEqual((signs(rhythm, [Metre(tree)], book), ties(rhythm, [Metre(tree)], book)), (many, many - 1))

    def test_written(self):
        chance = Random(3)
        for _ in range(50):
            rhythm = some_rhythm(chance, chance.randrange(1, 14), chance.randrange(1, 14), chance.choice([1, 3, 20]))
            row, book = some_row(chance, rhythm.length), chosen_book(chance)
            found = written(rhythm, row, book)
            wanted = [
                [(index, best(metre, book, x, y)) for index, x, y in bar]
                for metre, bar in zip(row, pieces_by_words(rhythm, row))
            ]
            self.assertEqual(found, wanted)
            for metre, bar in zip(row, found):
                self.assertTrue(all(is_writing(metre, book, points) for _, points in bar))
            self.assertEqual(sum(len(points) - 1 for bar in found for _, points in bar), signs(rhythm, row, book))
            self.assertEqual(written(book=book, row=tuple(row), rhythm=rhythm), found)

    def test_a_note_of_thousands_of_digits(self):
        rhythm = Rhythm(2, [((0, ""), TONE), ((0, "01" * 2000), TONE)])
        row = [Metre(1), Metre(1)]
        self.assertEqual(signs(rhythm, row, Book()), 2000 + 2001 + 1)


class BadRowTest(unittest.TestCase):
    def test_rows_that_do_not_fit(self):
        rhythm = Rhythm(4, [((0, ""), TONE)])
        two, one = Metre((1, 1)), Metre(1)
        wrong = [[two], [two, one], [two, two, one], [one] * 5, [], (), None, [two, 2], [two, None], [two, (1, 1)], two, {two.tree: 1}]
        for row in wrong + OTHERS:
            for asked in (pieces, signs, ties, written):
                with self.assertRaises(BadRow):
                    asked(rhythm, row, *[Book()][:asked is not pieces])
        for row in ([two, two], (two, one, one), [one] * 4, [Metre(((1, 1), (1, 1)))]):
            self.assertEqual(len(pieces(rhythm, row)), len(row))

    def test_lists_of_metres(self):
        rhythm = Rhythm(4, [((0, ""), TONE)])
        for metres in OTHERS + [[], [Metre(1)] * 13, [Metre(1), 1], [Metre(1), None], "metres", {Metre(1).tree: 1}]:
            for asked in (best_row, bounds):
                with self.assertRaises(BadRow):
                    asked(rhythm, metres, Book())
            for value in OTHERS + [[0, 1, 2, 3, 4]]:
                with self.assertRaises(BadRow):
                    is_bounds(rhythm, metres, Book(), value)
        self.assertEqual(best_row(rhythm, [Metre(1)] * 12, Book()), (4, (0, 0, 0, 0)))

    def test_two_hundred_and_forty_bars(self):
        rhythm = Rhythm(240, [((0, ""), TONE)])
        self.assertEqual(signs(rhythm, [Metre(1)] * 240, Book()), 240)
        with self.assertRaises(BadRow):
            signs(rhythm, [Metre(1)] * 241, Book())


class BestRowTest(unittest.TestCase):
    def questions(self, seed, many):
        chance = Random(seed)
        for _ in range(many):
            rhythm = some_rhythm(chance, chance.randrange(1, 9), chance.randrange(1, 9))
            trees = [chance.choice(SMALL) for _ in range(chance.randrange(1, 4))]
            yield rhythm, [Metre(tree) for tree in trees], chosen_book(chance)

    def test_against_all_rows(self):
        none = ties_of_bars = ties_of_rows = 0
        for rhythm, metres, book in self.questions(4, 150):
            rows = rows_by_words(rhythm.length, metres)
            answer = best_row(rhythm, metres, book)
            if not rows:
                self.assertIsNone(answer)
                none += 1
                continue
            order = sorted((signs(rhythm, [metres[index] for index in row], book), len(row), row) for row in rows)
            self.assertEqual(answer, (order[0][0], order[0][2]))
            ties_of_bars += len({bars for many, bars, _ in order if many == order[0][0]}) > 1
            ties_of_rows += len([row for row in order if row[:2] == order[0][:2]]) > 1
            self.assertEqual(best_row(book=book, metres=tuple(metres), rhythm=rhythm), answer)
        self.assertGreater(min(none, ties_of_bars, ties_of_rows), 5)

    def test_no_row_fits(self):
        rhythm = Rhythm(5, [((0, ""), TONE)])
        self.assertIsNone(best_row(rhythm, [Metre((1, 1)), Metre(((1, 1), (1, 1)))], Book()))
        self.assertIsNone(best_row(rhythm, [Metre(SIXTEEN)], Book()))
        self.assertEqual(best_row(rhythm, [Metre((1, 1)), Metre((1, 1, 1))], Book()), (2, (0, 1)))

    def test_the_fewest_bars_and_then_the_least_tuple(self):
        rhythm = Rhythm(4, [((pulse, ""), TONE) for pulse in range(4)])
        metres = [Metre(1), Metre((1, 1)), Metre((1, 1, 1)), Metre((1, 1))]
        self.assertEqual(best_row(rhythm, metres, Book()), (4, (0, 2)))
        self.assertEqual(best_row(rhythm, metres[1:2] + metres[3:] + [Metre(((1, 1), (1, 1)))], Book()), (4, (2,)))
        self.assertEqual(best_row(rhythm, [Metre((1, 1)), Metre((1, 1))], Book()), (4, (0, 0)))

    def test_bounds(self):
        for rhythm, metres, book in self.questions(5, 60):
            found = bounds(rhythm, metres, book)
            self.assertTrue(type(found) is list and all(type(entry) is int for entry in found))
            self.assertEqual((len(found), found[0]), (rhythm.length + 1, 0))
            self.assertTrue(is_bounds_by_words(rhythm, metres, book, found))
            self.assertIs(is_bounds(rhythm, metres, book, found), True)
            answer = best_row(rhythm, metres, book)
            if answer is not None:
                self.assertEqual(found[-1], answer[0])
            self.assertEqual(bounds(book=book, metres=tuple(metres), rhythm=rhythm), found)

    def test_bounds_changed(self):
        chance, kept = Random(6), 0
        for rhythm, metres, book in self.questions(7, 25):
            found = bounds(rhythm, metres, book)
            for at in range(len(found)):
                for more in (-1, 1, chance.choice([-7, 10 ** 59])):
                    value = found[:at] + [found[at] + more] + found[at + 1:]
                    wanted = is_bounds_by_words(rhythm, metres, book, value)
                    self.assertIs(is_bounds(rhythm, metres, book, value), wanted)
                    kept += wanted
        self.assertGreater(kept, 20)

    def test_any_value_as_bounds(self):
        rhythm = Rhythm(4, [((0, ""), TONE), ((1, "1"), TONE), ((3, ""), REST)])
        question = (rhythm, [Metre(1), Metre((1, 1))], Book())
        found = bounds(*question)
        self.assertEqual(found[-1], 5)
        self.assertTrue(is_bounds(value=found, book=question[2], metres=tuple(question[1]), rhythm=rhythm))
        for thing in OTHERS + [tuple(found), found[:-1], found + [9], dict(enumerate(found)), [found]]:
            self.assertIs(is_bounds(*question, thing), False)
        for at in range(5):
            for other in (None, True, False, "1", (1,), [1]):
                self.assertIs(is_bounds(*question, found[:at] + [other] + found[at + 1:]), False)
        self.assertIs(is_bounds(*question, [0, 0, 0, 0, 0]), True)
        self.assertIs(is_bounds(*question, [-1, -1, -1, -1, -1]), False)


class LimitsTest(unittest.TestCase):
    def test_an_ordinary_time(self):
        chance = Random(8)
        begin = time.monotonic()
        metres = [Metre(tree) for tree in [1, SIXTEEN] + TREES[1:8] + CUT[:3]]
        self.assertEqual(len(metres), 12)
        for bits in (1, 8, 300):
            rhythm, book = some_rhythm(chance, 240, 200, bits), chosen_book(chance)
            many, indexes = best_row(rhythm, metres, book)
            row = [metres[index] for index in indexes]
            self.assertEqual(signs(rhythm, row, book), many)
            found = bounds(rhythm, metres, book)
            self.assertEqual(found[-1], many)
            self.assertTrue(is_bounds(rhythm, metres, book, found))
            ones = [Metre(1)] * 240
            self.assertLessEqual(many, signs(rhythm, ones, book))
            bars = written(rhythm, ones, book)
            self.assertEqual(sum(len(points) - 1 for bar in bars for _, points in bar), signs(rhythm, ones, book))
            self.assertEqual(best_row(rhythm, [Metre(1)] * 12, book), (signs(rhythm, ones, book), (0,) * 240))
        self.assertLess(time.monotonic() - begin, 60)


if __name__ == "__main__":
    unittest.main()
