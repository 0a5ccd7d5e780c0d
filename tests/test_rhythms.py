"""barscribe.rhythms: point 40 of the document."""

import unittest
from random import Random

from barscribe.errors import BadNumber, BadPoint, BadRhythm
from barscribe.metres import Metre
from barscribe.rhythms import Rhythm
from tests.notes import digits
from tests.values import OTHERS

TONE, REST = "tone", "rest"


def some_moments(chance, length, many, bits):
    """Some moments before a length, ascending, the first one 0; fewer if there are not so many."""
    found = {(0, "")}
    for _ in range(30 * many):
        if len(found) < many:
            found.add((chance.randrange(length), digits(chance, chance.randrange(bits + 1))))
    return sorted(found)


def some_rhythm(chance, length, many, bits=3):
    moments = some_moments(chance, length, many, bits)
    return Rhythm(length, [(moment, chance.choice([TONE, REST])) for moment in moments])


class NewTest(unittest.TestCase):
    def test_length_and_notes(self):
        notes = [((0, ""), TONE), ((1, "1"), TONE), ((3, ""), REST)]
        for told in (notes, tuple(notes)):
            rhythm = Rhythm(4, told)
            self.assertEqual((rhythm.length, rhythm.notes, len(rhythm)), (4, tuple(notes), 3))
            self.assertIsInstance(rhythm.notes, tuple)
        self.assertEqual(Rhythm(length=4, notes=notes), Rhythm(4, notes))
        self.assertTrue({"length", "notes"} <= set(vars(Rhythm(4, notes))))

    def test_a_list_that_is_changed_afterwards(self):
        notes = [((0, ""), TONE), ((1, "1"), REST)]
        rhythm = Rhythm(2, notes)
        notes.append(((1, "11"), TONE))
        notes[0] = None
        self.assertEqual(rhythm.notes, (((0, ""), TONE), ((1, "1"), REST)))
        self.assertEqual((len(rhythm), rhythm.at((1, "11"))), (2, 1))

    def test_limits(self):
        notes = [((0, ""), TONE)]
        self.assertEqual([Rhythm(length, notes).length for length in (1, 2, 239, 240)], [1, 2, 239, 240])
        many = [((pulse, bits), TONE) for pulse in range(100) for bits in ("", "1")]
        self.assertEqual(len(Rhythm(100, many)), 200)
        deep = [((0, ""), TONE), ((0, "01" * 5000), REST), ((239, "1" * 10000), TONE)]
        self.assertEqual(Rhythm(240, deep).span(1), ((0, "01" * 5000), (239, "1" * 10000)))

    def test_bad_lengths_ahead_of_bad_notes(self):
        for length in (0, -1, 241, 10 ** 60, True, False, None, "4", (4,), [4], {}, Metre(1)):
            for notes in ([((0, ""), TONE)], [], None, [None]):
                with self.assertRaises(BadNumber):
                    Rhythm(length, notes)

    def wrong(self, notes, index, length=4):
        with self.assertRaises(BadRhythm) as caught:
            Rhythm(length, notes)
        self.assertEqual(caught.exception.index, index)

    def test_no_list_and_empty_lists(self):
        for thing in OTHERS:
            if not isinstance(thing, (list, tuple)) or not thing:
                self.wrong(thing, 0)
        self.wrong({((0, ""), TONE): 1}, 0)
        self.wrong("tone", 0)

    def test_the_first_wrong_note(self):
        good = [((0, ""), TONE), ((0, "1"), REST), ((2, "01"), TONE), ((3, "11"), REST)]
        wrong = [
            None, 0, (), ((2, "1"),), ((2, "1"), TONE, 1), [(2, "1"), TONE], ([2, "1"], TONE), ((2, "1"), "Tone"), ((2, "1"), ""),
            ((2, "1"), None), ((2, "1"), 0), ((2, "1"), ["tone"]), ((2, "10"), TONE), ((2, "2"), TONE), ((2, None), TONE),
            ((2, ["1"]), TONE), ((True, "1"), TONE), (("2", "1"), TONE), ((-1, ""), TONE), ((4, ""), TONE), ((4, "1"), TONE),
            ((10 ** 60, ""), TONE), ((2,), TONE), ((2, "", ""), TONE), (2, TONE), {}, "tone", Metre(1),
        ]
        for at in range(4):
            for note in wrong:
                self.wrong(good[:at] + [note] + good[at + 1:], at)
                self.wrong(tuple(good[:at] + [note, None]), at)
        for note in OTHERS:
            self.wrong([note] + good[1:], 0)

    def test_moments_that_do_not_ascend(self):
        self.wrong([((0, "1"), TONE)], 0)
        self.wrong([((1, ""), TONE)], 0)
        self.wrong([((0, ""), TONE), ((0, ""), TONE)], 1)
        self.wrong([((0, ""), TONE), ((2, ""), TONE), ((1, "1"), TONE), None], 2)
        self.wrong([((0, ""), TONE), ((2, "1"), TONE), ((2, "1"), REST)], 2)
        self.wrong([((0, ""), TONE), ((2, "1"), TONE), ((2, "011"), REST)], 2)

    def test_more_than_two_hundred(self):
        many = [((pulse, bits), TONE) for pulse in range(101) for bits in ("", "1")]
        self.wrong(many[:201], 200, 240)
        self.wrong(many, 200, 240)
        self.wrong(many[:200] + [None], 200, 240)
        self.wrong(many[:200] + [many[0]], 200, 240)
        for at in (0, 5, 199):
            self.wrong(many[:at] + [None] + many[at:], at, 240)
        self.wrong(many, 180, 90)

    def test_equality(self):
        notes = [((0, ""), TONE), ((1, "1"), REST)]
        one = Rhythm(3, notes)
        self.assertTrue(one == Rhythm(3, tuple(notes)) and not one != Rhythm(3, notes))
        for other in (Rhythm(4, notes), Rhythm(3, notes[:1]), Rhythm(3, [notes[0], ((1, "1"), TONE)])):
            self.assertFalse(one == other)
        for thing in OTHERS + [tuple(notes), notes, (3, tuple(notes))]:
            self.assertFalse(one == thing)
            self.assertFalse(thing == one)
            self.assertTrue(one != thing)


class AskedTest(unittest.TestCase):
    def test_span(self):
        chance = Random(1)
        for _ in range(30):
            rhythm = some_rhythm(chance, chance.randrange(1, 9), chance.randrange(1, 8))
            begins = [moment for moment, _ in rhythm.notes] + [(rhythm.length, "")]
            spans = [rhythm.span(index) for index in range(len(rhythm))]
            self.assertEqual(spans, list(zip(begins, begins[1:])))
            self.assertEqual(rhythm.span(index=0), spans[0])
            for index in (-1, len(rhythm), 10 ** 60, True, False, None, "0", (0,), [0]):
                with self.assertRaises(BadNumber):
                    rhythm.span(index)

    def test_at(self):
        chance = Random(2)
        for _ in range(40):
            rhythm = some_rhythm(chance, chance.randrange(1, 9), chance.randrange(1, 12))
            begins = [moment for moment, _ in rhythm.notes]
            moments = begins + some_moments(chance, rhythm.length, 8, 4)
            for moment in moments:
                wanted = max(index for index, begin in enumerate(begins) if begin <= moment)
                self.assertEqual(rhythm.at(moment), wanted)
            self.assertEqual(rhythm.at(moment=(0, "")), 0)

    def test_no_moments(self):
        rhythm = Rhythm(3, [((0, ""), TONE), ((1, "1"), REST)])
        wrong = [(3, ""), (3, "1"), (-1, ""), (0, "10"), [0, ""], (True, ""), (0, None), (0,), (0, "", ""), (10 ** 60, "")]
        for thing in OTHERS + wrong:
            with self.assertRaises(BadPoint) as caught:
                rhythm.at(thing)
            self.assertIs(caught.exception.point, thing)


class PartTest(unittest.TestCase):
    def test_what_sounds(self):
        chance = Random(3)
        for _ in range(40):
            rhythm = some_rhythm(chance, chance.randrange(1, 9), chance.randrange(1, 14))
            for begin in range(rhythm.length):
                for end in range(begin + 1, rhythm.length + 1):
                    part = rhythm.part(begin, end)
                    self.assertEqual(part.length, end - begin)
                    inner = {moment for moment, _ in rhythm.notes if (begin, "") < moment < (end, "")}
                    moments = [(begin, "")] + sorted(inner)
                    wanted = [((pulse - begin, bits), rhythm.notes[rhythm.at((pulse, bits))][1]) for pulse, bits in moments]
                    self.assertEqual(part.notes, tuple(wanted))
            self.assertEqual(rhythm.part(0, rhythm.length), rhythm)
            self.assertEqual(rhythm.part(end=rhythm.length, begin=0), rhythm)

    def test_bad_numbers(self):
        rhythm = Rhythm(3, [((0, ""), TONE), ((1, "1"), REST)])
        for begin, end in ((0, 0), (1, 1), (2, 1), (-1, 2), (0, 4), (3, 4), (3, 3), (0, 10 ** 60)):
            with self.assertRaises(BadNumber):
                rhythm.part(begin, end)
        for thing in (None, True, False, "1", (1,), [1], {}, (0, "")):
            for begin, end in ((thing, 2), (0, thing), (thing, thing)):
                with self.assertRaises(BadNumber):
                    rhythm.part(begin, end)


class JoinedTest(unittest.TestCase):
    def test_the_notes_follow_one_another(self):
        chance = Random(4)
        for _ in range(40):
            one, other = [some_rhythm(chance, chance.randrange(1, 9), chance.randrange(1, 8)) for _ in "ab"]
            both = one.joined(other)
            self.assertEqual((both.length, len(both)), (one.length + other.length, len(one) + len(other)))
            self.assertEqual(both.part(0, one.length), one)
            self.assertEqual(both.part(one.length, both.length), other)
            self.assertEqual(both.notes[len(one)], ((one.length, ""), other.notes[0][1]))
            self.assertEqual(one.joined(other=other), both)
        self.assertEqual(len(one.joined(one)), 2 * len(one))

    def test_limits(self):
        long = Rhythm(120, [((0, ""), TONE)])
        self.assertEqual(long.joined(long).length, 240)
        with self.assertRaises(BadNumber):
            long.joined(Rhythm(121, [((0, ""), TONE)]))
        many = Rhythm(50, [((pulse, bits), TONE) for pulse in range(50) for bits in ("", "1")])
        self.assertEqual(len(many.joined(many)), 200)
        with self.assertRaises(BadNumber):
            many.joined(many).joined(Rhythm(1, [((0, ""), TONE)]))
        with self.assertRaises(BadNumber):
            Rhythm(240, [((0, ""), TONE)]).joined(Rhythm(1, [((0, ""), TONE)]))

    def test_no_rhythm(self):
        rhythm = Rhythm(240, [((0, ""), TONE)])
        for thing in OTHERS + [rhythm.notes, [rhythm]]:
            with self.assertRaises(BadRhythm) as caught:
                rhythm.joined(thing)
            self.assertEqual(caught.exception.index, 0)


if __name__ == "__main__":
    unittest.main()
