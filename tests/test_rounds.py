"""barscribe.rounds: points 60 to 62 of the document."""

import time
import unittest
from itertools import combinations, product
from math import gcd, lcm
from random import Random

from barscribe.errors import BadDepth, BadNumber, BadRhythm, BadTime, BadVoice, TooMany
from barscribe.metres import Metre
from barscribe.rhythms import Rhythm
from barscribe.rounds import classes, clashes, count_together, most_together, next_clear, next_together, sounds_at, voice_of
from tests.reference import to_time
from tests.test_rhythms import REST, TONE, some_rhythm
from tests.values import OTHERS

WRONG_VOICES = [
    [4, (0,), 0], (4, [0], 0), (4, (0,)), (4, (0,), 0, 0), (0, (0,), 0), (-4, (0,), 0), (10 ** 12 + 1, (0,), 0), (True, (0,), 0),
    ("4", (0,), 0), (None, (0,), 0), (4, (), 0), (4, (0, 0), 0), (4, (1, 0), 0), (4, (4,), 0), (4, (-1,), 0), (4, (0, 4), 0),
    (4, (True,), 0), (4, (0, True), 0), (4, ("0",), 0), (4, (None,), 0), (4, ((0,),), 0), (4, 0, 0), (4, "0", 0), (4, {0: 0}, 0),
    (4, (0,), -1), (4, (0,), 10 ** 15 + 1), (4, (0,), True), (4, (0,), "0"), (4, (0,), None), (100, tuple(range(25)), 0),
    (4, (0,), (0,)), (1, (1,), 0),
]


def some_voices(chance, most=4, lengths=(1, 2, 3, 4, 5, 6, 8, 9, 12), entry=12):
    found = []
    for _ in range(chance.randrange(1, most + 1)):
        length = chance.choice(lengths)
        onsets = sorted(chance.sample(range(length), chance.randrange(1, min(length, 4) + 1)))
        found.append((length, tuple(onsets), chance.randrange(entry)))
    return found


def sounding(voices, horizon):
    """For each time below a horizon the tuple of the voices that sound, by going through all of them."""
    rows = [[] for _ in range(horizon)]
    for index, (length, onsets, entry) in enumerate(voices):
        for onset in onsets:
            for at in range(entry + onset, horizon, length):
                rows[at].append(index)
    return [tuple(sorted(row)) for row in rows]


def horizon_of(voices):
    return max(entry for _, _, entry in voices) + 2 * lcm(*[length for length, _, _ in voices])


def questions(seed, many, **more):
    chance = Random(seed)
    for _ in range(many):
        voices = some_voices(chance, **more)
        yield voices, sounding(voices, horizon_of(voices))


class VoiceOfTest(unittest.TestCase):
    def test_tones_and_rests(self):
        rhythm = Rhythm(3, [((0, ""), REST), ((0, "1"), TONE), ((1, ""), TONE), ((2, "01"), REST), ((2, "11"), TONE)])
        self.assertEqual(voice_of(rhythm, 2), (12, (2, 4, 11), 0))
        self.assertEqual(voice_of(rhythm, 8, 10 ** 15), (768, (128, 256, 704), 10 ** 15))
        self.assertEqual(voice_of(entry=7, depth=2, rhythm=rhythm), (12, (2, 4, 11), 7))
        # A rest within a cell is no matter.
        self.assertEqual(voice_of(Rhythm(1, [((0, ""), TONE), ((0, "001"), REST)]), 0), (1, (0,), 0))

    def test_all_depths(self):
        chance, many = Random(1), 0
        for _ in range(200):
            rhythm = some_rhythm(chance, chance.randrange(1, 9), chance.randrange(1, 9), 4)
            tones = [to_time(moment) for moment, sound in rhythm.notes if sound == TONE]
            for depth in range(9):
                places = [time * 2 ** depth for time in tones]
                if tones and all(place.denominator == 1 for place in places):
                    self.assertEqual(voice_of(rhythm, depth), (rhythm.length << depth, tuple(map(int, places)), 0))
                    many += 1
                else:
                    with self.assertRaises(BadVoice) as caught:
                        voice_of(rhythm, depth)
                    self.assertEqual(caught.exception.index, 0)
        self.assertGreater(many, 300)

    def test_many_tones(self):
        notes = [((pulse, ""), TONE) for pulse in range(25)]
        self.assertEqual(voice_of(Rhythm(24, notes[:24]), 0), (24, tuple(range(24)), 0))
        for rhythm in (Rhythm(25, notes), Rhythm(3, [((0, ""), REST)])):
            with self.assertRaises(BadVoice) as caught:
                voice_of(rhythm, 3)
            self.assertEqual(caught.exception.index, 0)
        self.assertEqual(len(voice_of(Rhythm(25, notes[:24] + [((24, ""), REST)]), 0)[1]), 24)

    def test_errors_in_their_order(self):
        bad = Rhythm(1, [((0, ""), REST)])
        for thing in OTHERS + [bad.notes]:
            for depth, entry in ((0, 0), (9, 0), (None, None)):
                with self.assertRaises(BadRhythm) as caught:
                    voice_of(thing, depth, entry)
                self.assertEqual(caught.exception.index, 0)
        for depth in (-1, 9, 10 ** 60, True, False, None, "0", (0,), [0], {}):
            for entry in (0, -1, None):
                with self.assertRaises(BadDepth):
                    voice_of(bad, depth, entry)
        for entry in (-1, 10 ** 15 + 1, 10 ** 60, True, False, None, "0", (0,), [0], {}):
            with self.assertRaises(BadTime):
                voice_of(bad, 0, entry)


class SoundsTest(unittest.TestCase):
    def test_against_all_times(self):
        for voices, rows in questions(2, 60):
            for time, row in enumerate(rows):
                self.assertEqual(sounds_at(voices, time), row)
        self.assertEqual(sounds_at(time=time, voices=tuple(voices)), row)

    def test_long_voices(self):
        voices = [(10 ** 12, (7, 10 ** 12 - 1), 10 ** 15), (999999999989, (0,), 3)]
        self.assertEqual(sounds_at(voices, 10 ** 15 + 7), (0,))
        self.assertEqual(sounds_at(voices, 10 ** 15 + 7 + 10 ** 60 // 10 ** 12 * 10 ** 12), (0,))
        self.assertEqual(sounds_at(voices, 7), ())
        self.assertEqual(sounds_at(voices, 3), (1,))
        self.assertEqual(sounds_at(voices, 3 + 999999999989 * (10 ** 48 - 1)), (1,))
        self.assertEqual(sounds_at(voices, 2), ())


class TogetherTest(unittest.TestCase):
    def test_next_together(self):
        chance, none = Random(3), 0
        for voices, rows in questions(4, 150):
            for number in range(1, len(voices) + 1):
                period = lcm(*[length for length, _, _ in voices])
                for time in [0, 1] + [chance.randrange(len(rows) - period + 1) for _ in range(4)]:
                    later = [at for at in range(time, len(rows)) if len(rows[at]) >= number]
                    found = next_together(voices, number, time)
                    self.assertEqual(found, (later[0], rows[later[0]]) if later else None)
                    none += not later
                    if later:
                        far = time + period * 10 ** 57
                        again = next_together(voices, number, max(far, 20))
                        shifted = [at for at in range(len(rows) - period, len(rows)) if len(rows[at]) >= number]
                        self.assertTrue(any((again[0] - at) % period == 0 for at in shifted))
        self.assertGreater(none, 20)
        self.assertEqual(next_together(time=time, number=number, voices=tuple(voices)), found)

    def test_most_together(self):
        for voices, rows in questions(5, 150, most=5, lengths=(1, 2, 3, 4, 6, 8)):
            most = max(len(row) for row in rows)
            first = [len(row) for row in rows].index(most)
            self.assertEqual(most_together(voices), (most, first, rows[first]))
        self.assertEqual(most_together(voices=tuple(voices)), (most, first, rows[first]))

    def test_more_than_asked_may_sound(self):
        voices = [(3, (0,), 0)] * 3
        self.assertEqual(next_together(voices, 1, 1), (3, (0, 1, 2)))
        self.assertEqual(next_together(voices, 2, 3), (3, (0, 1, 2)))
        self.assertEqual([count_together(voices, number, 0, 10) for number in (1, 2, 3)], [4, 4, 4])

    def test_before_the_first_entries(self):
        voices = [(4, (0,), 100), (6, (2,), 1000)]
        self.assertEqual(next_together(voices, 1, 0), (100, (0,)))
        self.assertEqual(next_together(voices, 2, 0), (1008, (0, 1)))
        self.assertEqual([count_together(voices, 1, 0, high) for high in (100, 101, 1000)], [0, 1, 225])
        self.assertEqual([count_together(voices, 2, 0, high) for high in (1008, 1009, 1020, 1021)], [0, 1, 1, 2])
        self.assertEqual(most_together(voices), (2, 1008, (0, 1)))
        # The classes of 0 and 8 would meet before the second one enters.
        self.assertEqual(classes(voices), [(0, 12)])

    def test_count_together(self):
        chance = Random(6)
        for voices, rows in questions(7, 150, most=5, lengths=(1, 2, 3, 4, 6, 8)):
            for number in range(1, len(voices) + 1):
                for _ in range(6):
                    low, high = chance.randrange(len(rows)), chance.randrange(len(rows) + 1)
                    wanted = len([row for row in rows[low:high] if len(row) >= number])
                    self.assertEqual(count_together(voices, number, low, high), wanted)
        self.assertEqual(count_together(high=high, low=low, number=number, voices=tuple(voices)), wanted)
        self.assertEqual([count_together(voices, 1, 9, high) for high in (0, 8, 9)], [0, 0, 0])

    def test_count_over_long_times(self):
        chance = Random(8)
        for voices, rows in questions(9, 60, lengths=(1, 2, 3, 4, 6)):
            period = lcm(*[length for length, _, _ in voices])
            for number in range(1, len(voices) + 1):
                in_one = len([row for row in rows[-period:] if len(row) >= number])
                ahead = len([row for row in rows if len(row) >= number])
                times = chance.randrange(10 ** 50)
                self.assertEqual(count_together(voices, number, 0, len(rows) + times * period), ahead + times * in_one)

    def test_long_lengths(self):
        one, other = 10 ** 12, 999999999989
        self.assertEqual(gcd(one, other), 1)
        voices = [(one, (5, 17), 10 ** 15), (other, (1, 10 ** 11), 8)]
        for time in (0, 10 ** 15, 10 ** 59):
            first, indexes = next_together(voices, 2, time)
            self.assertTrue(indexes == (0, 1) and first >= max(time, 10 ** 15))
            self.assertTrue((first - 10 ** 15) % one in (5, 17) and (first - 8) % other in (1, 10 ** 11))
            self.assertEqual(count_together(voices, 2, time, first), 0)
            self.assertEqual(count_together(voices, 2, time, first + 1), 1)
        self.assertEqual([period for _, period in classes(voices)], [one * other] * 4)
        many = count_together(voices, 2, 10 ** 15, 10 ** 15 + one * other * 10 ** 30)
        self.assertEqual(many, 4 * 10 ** 30)
        self.assertEqual(count_together(voices, 1, 0, 10 ** 60) > 0, True)
        self.assertIsNone(next_together([(10 ** 12, (0,), 0), (10 ** 12, (1,), 0)], 2, 0))
        self.assertEqual(next_together([(10 ** 12, (0,), 0), (10 ** 12, (0,), 10 ** 12)], 2, 0), (10 ** 12, (0, 1)))

    def test_an_ordinary_time(self):
        begin = time.monotonic()
        primes = [999999999989, 999999999961, 999999999959, 999999999937]
        voices = [(length, tuple(range(0, 80, 10))[:8], 10 ** 15) for length in primes]
        self.assertEqual(len(classes(voices)), 4096)
        self.assertEqual(most_together(voices)[:2], (4, 10 ** 15))
        self.assertEqual(next_together(voices, 4, 10 ** 15 + 71)[1], (0, 1, 2, 3))
        count_together(voices, 2, 0, 10 ** 60)
        self.assertLess(time.monotonic() - begin, 10)


class ClassesTest(unittest.TestCase):
    def test_against_all_times(self):
        none = 0
        for voices, rows in questions(10, 150, most=3):
            period = lcm(*[length for length, _, _ in voices])
            all_of = tuple(range(len(voices)))
            last = range(len(rows) - period, len(rows))
            wanted = sorted((at % period, period) for at in last if rows[at] == all_of)
            found = classes(voices)
            self.assertEqual(found, wanted)
            self.assertEqual(type(found), list)
            none += not found
        self.assertGreater(none, 10)
        self.assertEqual(classes(voices=tuple(voices)), found)

    def test_by_onsets_that_agree(self):
        chance = Random(11)
        for _ in range(60):
            voices = some_voices(chance, lengths=(6, 10, 12, 15, 20))
            rows = product(*[onsets for _, onsets, _ in voices])
            found = []
            for row in rows:
                places = [(entry + onset, length) for (length, _, entry), onset in zip(voices, row)]
                if all((a - b) % gcd(m, n) == 0 for (a, m), (b, n) in combinations(places, 2)):
                    period = lcm(*[length for _, length in places])
                    found.extend((at, period) for at in range(period) if all((at - a) % m == 0 for a, m in places))
            self.assertEqual(classes(voices), sorted(found))


class ClashesTest(unittest.TestCase):
    def test_against_all_delays(self):
        chance, none, clear = Random(12), 0, 0
        for _ in range(200):
            one, other = [some_voices(chance, most=1)[0] for _ in "ab"]
            common = gcd(one[0], other[0])
            found = []
            for delay in range(common):
                later = (other[0], other[1], other[2] + delay)
                if (0, 1) in sounding([one, later], horizon_of([one, later])):
                    found.append(delay)
            self.assertEqual(clashes(one, other), (common, tuple(found)))
            for delay in [0, 1, chance.randrange(100), 10 ** 59 + chance.randrange(100)]:
                wanted = [at for at in range(delay, delay + common) if at % common not in found]
                self.assertEqual(next_clear(one, other, delay), wanted[0] if wanted else None)
                none, clear = none + (not wanted), clear + bool(wanted and wanted[0] != delay)
        self.assertGreater(min(none, clear), 20)
        self.assertEqual(clashes(other=other, one=one), (common, tuple(found)))
        self.assertEqual(next_clear(delay=delay, other=other, one=one), wanted[0] if wanted else None)

    def test_long_lengths(self):
        one = (10 ** 12, tuple(range(24)), 10 ** 15)
        other = (10 ** 12, tuple(range(0, 24 * 24, 24)), 3)
        common, found = clashes(one, other)
        self.assertEqual((common, len(found)), (10 ** 12, 576))
        self.assertEqual(next_clear(one, other, 0), next(d for d in range(600) if d not in found))
        self.assertEqual(next_clear(one, other, 10 ** 12 * 10 ** 40 + found[0]) % 10 ** 12 in found, False)
        self.assertEqual(clashes((10 ** 12, (0,), 10 ** 15), (999999999989, (0,), 0)), (1, (0,)))
        self.assertIsNone(next_clear((10 ** 12, (0,), 10 ** 15), (999999999989, (0,), 0), 10 ** 60))

    def test_the_entry_of_the_second_one(self):
        self.assertEqual(clashes((4, (0,), 0), (4, (1,), 2)), (4, (1,)))
        self.assertEqual(clashes((4, (0,), 1), (4, (1,), 2)), (4, (2,)))
        self.assertEqual([next_clear((4, (0,), 0), (4, (1,), 2), delay) for delay in (0, 1, 2, 5)], [0, 2, 2, 6])

    def test_bad_voices_and_times(self):
        good = (4, (0,), 0)
        for thing in OTHERS + WRONG_VOICES:
            for other in (good, None):
                for asked, rest in ((clashes, ()), (next_clear, (0,)), (next_clear, (None,))):
                    with self.assertRaises(BadVoice) as caught:
                        asked(thing, other, *rest)
                    self.assertEqual(caught.exception.index, 0)
            for asked, rest in ((clashes, ()), (next_clear, (0,)), (next_clear, (None,))):
                with self.assertRaises(BadVoice) as caught:
                    asked(good, thing, *rest)
                self.assertEqual(caught.exception.index, 1)
        for delay in (-1, True, False, None, "0", (0,), [0], {}, Metre(1)):
            with self.assertRaises(BadTime):
                next_clear(good, good, delay)


class ErrorsTest(unittest.TestCase):
    CALLS = [
        (sounds_at, (0,)), (sounds_at, (None,)), (classes, ()), (next_together, (1, 0)), (next_together, (None, None)),
        (most_together, ()), (count_together, (1, 0, 0)), (count_together, (None, None, None)),
    ]

    def raises(self, error, asked, *arguments):
        with self.assertRaises(error) as caught:
            asked(*arguments)
        return caught.exception

    def test_bad_voices(self):
        good = (4, (0,), 0)
        for asked, rest in self.CALLS:
            for thing in OTHERS + [[], [good] * 7, (), (good,) * 7, {good: 1}, "voices", [good] * 6 + [None]]:
                if not isinstance(thing, (list, tuple)) or not thing or len(thing) > 6:
                    self.assertEqual(self.raises(BadVoice, asked, thing, *rest).index, 0)
            for thing in OTHERS + WRONG_VOICES:
                for at in (0, 1, 5):
                    voices = [good] * at + [thing] + [None] * (5 - at)
                    self.assertEqual(self.raises(BadVoice, asked, voices, *rest).index, at)
                    self.assertEqual(self.raises(BadVoice, asked, tuple(voices), *rest).index, at)

    def test_limits_of_a_voice(self):
        for voice in [(10 ** 12, (10 ** 12 - 1,), 10 ** 15), (1, (0,), 0), (24, tuple(range(24)), 0)]:
            self.assertEqual(most_together([voice])[0], 1)
        self.assertEqual(most_together([(1, (0,), 0)] * 6), (6, 0, (0, 1, 2, 3, 4, 5)))

    def test_too_many_ahead_of_the_others(self):
        wide = (24, tuple(range(24)), 0)
        nine = (9, tuple(range(9)), 0)
        for voices in ([wide, wide, nine], [wide] * 6, (wide, nine, wide)):
            for asked, rest in self.CALLS:
                self.assertEqual(self.raises(TooMany, asked, voices, *rest).most, 5000)
        for asked, rest in self.CALLS:
            self.assertEqual(self.raises(BadVoice, asked, [wide, wide, nine, None], *rest).index, 3)
        fifty = [(20, tuple(range(20)), 0), (25, tuple(range(10)), 0), (25, tuple(range(5)), 0), (5, tuple(range(5)), 0)]
        self.assertEqual(most_together(fifty)[0], 4)
        self.raises(TooMany, most_together, fifty[:3] + [(7, tuple(range(6)), 0)])

    def test_bad_numbers_ahead_of_bad_times(self):
        voices = [(4, (0,), 0), (6, (1,), 0)]
        for number in (0, -1, 3, 10 ** 60, True, False, None, "1", (1,), [1], {}):
            for time in (0, -1, None):
                self.raises(BadNumber, next_together, voices, number, time)
                self.raises(BadNumber, count_together, voices, number, time, 0)
                self.raises(BadNumber, count_together, voices, number, 0, time)

    def test_bad_times(self):
        voices = [(4, (0,), 0), (6, (2,), 0)]
        for time in (-1, -10 ** 60, True, False, None, "0", (0,), [0], {}, (0, 1)):
            self.raises(BadTime, sounds_at, voices, time)
            self.raises(BadTime, next_together, voices, 1, time)
            self.raises(BadTime, count_together, voices, 1, time, 0)
            self.raises(BadTime, count_together, voices, 1, 0, time)
            self.raises(BadTime, count_together, voices, 1, 10, time)
        self.assertEqual((next_together(voices, 1, 10 ** 60)[0] >= 10 ** 60, next_together(voices, 2, 0)), (True, (8, (0, 1))))


if __name__ == "__main__":
    unittest.main()
