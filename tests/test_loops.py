"""barscribe.loops: points 43 and 44 of the document."""

import time
import unittest
from fractions import Fraction
from random import Random

from barscribe.errors import BadLoop, BadNumber, BadRow
from barscribe.loops import are_heights, bar_signs, best_loop, heights, rate
from barscribe.metres import Metre
from barscribe.moving import best_row, signs
from barscribe.rhythms import Rhythm
from barscribe.shapes import Book
from tests.notes import chosen_book
from tests.test_moving import SMALL
from tests.test_rhythms import REST, TONE, some_rhythm
from tests.values import CUT, OTHERS, SIXTEEN, TREES


def joined_times(rhythm, times):
    """A rhythm that is joined with itself."""
    found = rhythm
    for _ in range(times - 1):
        found = found.joined(rhythm)
    return found


def signs_by_words(rhythm, metre, book, pulse):
    """The signs of a bar, in as many rounds as it needs, as a rhythm of its own."""
    rounds = joined_times(rhythm, (pulse + metre.pulses - 1) // rhythm.length + 1)
    return signs(rounds.part(pulse, pulse + metre.pulses), [metre], book)


def simple_loops(length, metres):
    """All loops that visit no pulse twice."""
    found = []

    def go(start, pulse, seen, indexes):
        for index, metre in enumerate(metres):
            to = (pulse + metre.pulses) % length
            if to == start:
                found.append((start, (*indexes, index)))
            elif to not in seen:
                go(start, to, seen | {to}, (*indexes, index))

    for start in range(length):
        go(start, start, {start}, ())
    return found


class Table:
    """The signs of all bars of some metres in a rhythm, and what the words of the document say of them."""

    def __init__(self, rhythm, metres, book):
        self.length, self.metres = rhythm.length, metres
        self.signs = [[bar_signs(rhythm, metre, book, pulse) for pulse in range(rhythm.length)] for metre in metres]

    def rate(self, loop):
        pulse, indexes = loop
        total = pulses = 0
        for index in indexes:
            total += self.signs[index][(pulse + pulses) % self.length]
            pulses += self.metres[index].pulses
        return Fraction(total, pulses)

    def are_heights(self, fraction, value):
        """Point 44, word by word, for a list of integers of the right length."""
        n, d = fraction
        for metre, row in zip(self.metres, self.signs):
            for p, s in enumerate(row):
                if not d * s + value[p] - value[(p + metre.pulses) % self.length] >= n * metre.pulses:
                    return False
        return True


def questions(seed, many, length=7, metres=3):
    chance = Random(seed)
    for _ in range(many):
        rhythm = some_rhythm(chance, chance.randrange(1, length), chance.randrange(1, 6))
        trees = [chance.choice(SMALL) for _ in range(chance.randrange(1, metres + 1))]
        yield rhythm, [Metre(tree) for tree in trees], chosen_book(chance)


class BarSignsTest(unittest.TestCase):
    def test_against_joined_rhythms(self):
        chance, over = Random(1), 0
        for _ in range(40):
            rhythm = some_rhythm(chance, chance.randrange(1, 8), chance.randrange(1, 8))
            metre, book = Metre(chance.choice(TREES + CUT + [SIXTEEN])), chosen_book(chance)
            for pulse in range(rhythm.length):
                found = bar_signs(rhythm, metre, book, pulse)
                self.assertEqual(found, signs_by_words(rhythm, metre, book, pulse))
                over += pulse + metre.pulses > 2 * rhythm.length
            self.assertEqual(bar_signs(pulse=pulse, book=book, metre=metre, rhythm=rhythm), found)
        self.assertGreater(over, 30)

    def test_the_last_note_and_the_first_one_are_two(self):
        rhythm = Rhythm(2, [((0, ""), TONE)])
        metre = Metre(((1, 1), (1, 1)))
        self.assertEqual([bar_signs(rhythm, metre, Book(), pulse) for pulse in (0, 1)], [2, 4])
        self.assertEqual(bar_signs(Rhythm(1, [((0, ""), REST)]), Metre(SIXTEEN), Book(), 0), 16)
        self.assertEqual(bar_signs(Rhythm(3, [((0, ""), TONE), ((2, "1"), TONE)]), Metre((1, 1)), Book(), 2), 3)

    def test_pulses(self):
        rhythm = Rhythm(3, [((0, ""), TONE)])
        for pulse in (-1, 3, 4, 10 ** 60, True, False, None, "0", (0,), [0], {}, (0, ""), Metre(1)):
            with self.assertRaises(BadNumber):
                bar_signs(rhythm, Metre((1, 1)), Book(), pulse)
        self.assertEqual(bar_signs(rhythm, Metre((1, 1)), Book(), 2), 2)

    def test_many_notes_in_one_pulse(self):
        notes = [((0, f"{number:b}".zfill(9).rstrip("0")), TONE) for number in range(200)]
        rhythm = Rhythm(1, notes)
        self.assertEqual(bar_signs(rhythm, Metre(SIXTEEN), Book(), 0), 16 * signs(rhythm, [Metre(1)], Book()))


class RateTest(unittest.TestCase):
    def test_in_lowest_terms(self):
        for rhythm, metres, book in questions(2, 40):
            table = Table(rhythm, metres, book)
            for loop in simple_loops(rhythm.length, metres)[:20]:
                found = rate(rhythm, metres, book, loop)
                wanted = table.rate(loop)
                self.assertEqual(found, (wanted.numerator, wanted.denominator))
                twice = (loop[0], loop[1] * 2)
                if len(twice[1]) <= 240:
                    self.assertEqual(rate(loop=twice, book=book, metres=tuple(metres), rhythm=rhythm), found)

    def test_what_is_no_loop(self):
        rhythm = Rhythm(3, [((0, ""), TONE), ((1, "1"), REST)])
        metres = [Metre((1, 1)), Metre(1)]
        for loop in ((0, (0, 1)), (2, (1, 1, 1)), (1, (0, 0, 0)), (0, (1,) * 240), (2, (1, 0))):
            self.assertIsInstance(rate(rhythm, metres, Book(), loop), tuple)
        wrong = [
            [0, (0, 1)], (0, [0, 1]), (0, (0, 2)), (0, (0, -1)), (0, ()), (0, (1,) * 241), (0, (1,) * 243), (0, (0,)), (0, (1, 1)),
            (3, (0, 1)), (-1, (0, 1)), (True, (0, 1)), (False, (0, 1)), ("0", (0, 1)), (None, (0, 1)), (0, (False, True)),
            (0, (0, True)), (0, (0, "1")), (0, (0, None)), (0, (0, (1,))), (0, (0, 1), 0), (0,), ((0, 1),), (0, 0), (0, "01"),
            (0, {0: 1}), (0, (10 ** 60, 1)), (10 ** 60, (0, 1)), (0, ([0], 1)),
        ]
        for loop in OTHERS + wrong:
            with self.assertRaises(BadLoop):
                rate(rhythm, metres, Book(), loop)
        short = Rhythm(1, [((0, ""), TONE)])
        self.assertEqual(rate(short, metres, Book(), (0, (1,) * 240)), (1, 1))
        with self.assertRaises(BadLoop):
            rate(short, metres, Book(), (0, (1,) * 241))


class BestTest(unittest.TestCase):
    def test_against_all_simple_loops(self):
        for rhythm, metres, book in questions(3, 90):
            found, loop = best_loop(rhythm, metres, book)
            table = Table(rhythm, metres, book)
            rates = [table.rate(loop) for loop in simple_loops(rhythm.length, metres)]
            self.assertEqual(Fraction(*found), min(rates))
            self.assertEqual(rate(rhythm, metres, book, loop), found)
            self.assertEqual(table.rate(loop), Fraction(*found))
            self.assertEqual(best_loop(book=book, metres=tuple(metres), rhythm=rhythm), (found, loop))
            self.assertEqual((type(found), type(loop), type(loop[1])), (tuple, tuple, tuple))

    def test_rows_of_many_rounds_are_no_better(self):
        for rhythm, metres, book in questions(4, 30, length=5):
            rounds = joined_times(rhythm, 6)
            row = best_row(rounds, metres, book)
            if row is not None:
                self.assertGreaterEqual(Fraction(row[0], rounds.length), Fraction(*best_loop(rhythm, metres, book)[0]))

    def test_a_start_that_is_not_the_beginning(self):
        rhythm = Rhythm(4, [((0, ""), TONE), ((1, ""), TONE), ((3, ""), TONE)])
        found, (start, indexes) = best_loop(rhythm, [Metre((1, 1))], Book())
        self.assertEqual((found, start % 2, indexes), ((3, 4), 1, (0, 0)))
        self.assertEqual(rate(rhythm, [Metre((1, 1))], Book(), (0, (0, 0))), (1, 1))


class HeightsTest(unittest.TestCase):
    def test_heights_for_the_least_rate(self):
        for rhythm, metres, book in questions(5, 60):
            fraction = best_loop(rhythm, metres, book)[0]
            found = heights(rhythm, metres, book)
            self.assertTrue(type(found) is list and all(type(entry) is int for entry in found))
            self.assertEqual(len(found), rhythm.length)
            self.assertTrue(Table(rhythm, metres, book).are_heights(fraction, found))
            self.assertIs(are_heights(rhythm, metres, book, fraction, found), True)
            self.assertEqual(heights(book=book, metres=tuple(metres), rhythm=rhythm), found)
            found.append(None)
            self.assertEqual(len(heights(rhythm, metres, book)), rhythm.length)

    def test_no_loop_has_a_rate_below(self):
        """No list is accepted for a greater rate."""
        chance = Random(6)
        for rhythm, metres, book in questions(7, 40):
            n, d = best_loop(rhythm, metres, book)[0]
            value = heights(rhythm, metres, book)
            self.assertIs(are_heights(rhythm, metres, book, (n * 1000 + 1, d * 1000), [1000 * entry for entry in value]), False)
            lesser = [5 * entry for entry in value]
            self.assertIs(are_heights(rhythm, metres, book, (max(5 * n - 1, 0), 5 * d), lesser), True)
            self.assertIs(are_heights(rhythm, metres, book, (5 * n, 5 * d), lesser), True)
            for _ in range(5):
                random = [chance.randrange(-30, 30) for _ in value]
                self.assertIs(are_heights(rhythm, metres, book, (n + 1, d), random), False)

    def test_entries_changed_and_other_fractions(self):
        chance, kept, lost = Random(8), 0, 0
        for rhythm, metres, book in questions(9, 14):
            n, d = best_loop(rhythm, metres, book)[0]
            found, table = heights(rhythm, metres, book), Table(rhythm, metres, book)
            for at in range(len(found)):
                for more in (-1, 1, chance.choice([-7, 10 ** 59])):
                    value = found[:at] + [found[at] + more] + found[at + 1:]
                    for fraction in ((n, d), (0, 1), (max(n - 1, 0), d), (2 * n, 2 * d)):
                        wanted = table.are_heights(fraction, value)
                        self.assertIs(are_heights(rhythm, metres, book, fraction, value), wanted)
                        kept, lost = kept + wanted, lost + (not wanted)
        self.assertGreater(min(kept, lost), 40)

    def test_any_value(self):
        rhythm = Rhythm(3, [((0, ""), TONE), ((1, "1"), REST)])
        question = (rhythm, [Metre((1, 1)), Metre(1)], Book())
        fraction, found = best_loop(*question)[0], heights(*question)
        good = are_heights(value=found, fraction=fraction, book=question[2], metres=tuple(question[1]), rhythm=rhythm)
        self.assertIs(good, True)
        for thing in OTHERS + [tuple(found), found[:-1], found + [0], dict(enumerate(found)), [found]]:
            self.assertIs(are_heights(*question, fraction, thing), False)
        for at in range(3):
            for other in (None, True, False, "1", (1,), [1]):
                self.assertIs(are_heights(*question, (0, 1), found[:at] + [other] + found[at + 1:]), False)
        self.assertIs(are_heights(*question, (0, 1), [0, 0, 0]), True)

    def test_what_is_no_fraction(self):
        rhythm = Rhythm(2, [((0, ""), TONE)])
        wrong = [[1, 1], (1, 0), (-1, 1), (1, -1), (True, 1), (1, True), (1, "1"), (1,), (1, 1, 1), (None, 1), (0, 0)]
        for fraction in OTHERS + wrong:
            if fraction != (0, 1):
                for value in ([0, 0], None):
                    with self.assertRaises(BadNumber):
                        are_heights(rhythm, [Metre(1)], Book(), fraction, value)


class BadRowTest(unittest.TestCase):
    def test_lists_of_metres(self):
        rhythm = Rhythm(4, [((0, ""), TONE)])
        for metres in OTHERS + [[], [Metre(1)] * 13, [Metre(1), 1], [Metre(1), None], "metres", {Metre(1).tree: 1}]:
            for asked in (best_loop, heights):
                with self.assertRaises(BadRow):
                    asked(rhythm, metres, Book())
            for loop in OTHERS + [(0, (0,))]:
                with self.assertRaises(BadRow):
                    rate(rhythm, metres, Book(), loop)
            for fraction in ((1, 1), None, [1, 1]):
                with self.assertRaises(BadRow):
                    are_heights(rhythm, metres, Book(), fraction, [0, 0, 0, 0])
        self.assertEqual(best_loop(rhythm, [Metre(1)] * 12, Book())[0], (1, 1))

    def test_an_ordinary_time(self):
        chance, begin = Random(10), time.monotonic()
        metres = [Metre(tree) for tree in [1, SIXTEEN] + TREES[1:8] + CUT[:3]]
        for length, bits in ((240, 1), (239, 8), (210, 300)):
            rhythm, book = some_rhythm(chance, length, 200, bits), chosen_book(chance)
            fraction, loop = best_loop(rhythm, metres, book)
            self.assertEqual(rate(rhythm, metres, book, loop), fraction)
            self.assertIs(are_heights(rhythm, metres, book, fraction, heights(rhythm, metres, book)), True)
        self.assertLess(time.monotonic() - begin, 60)


if __name__ == "__main__":
    unittest.main()
