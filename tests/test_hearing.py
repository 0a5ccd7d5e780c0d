"""barscribe.hearing: points 24 to 26 of the document."""

import unittest
from fractions import Fraction
from itertools import product
from random import Random

from barscribe.errors import BadDepth, BadOnset, BadSlip, TooMany
from barscribe.far import fewest
from barscribe.hearing import allowed, best_points, heard, is_hearing, is_least
from barscribe.metres import Metre
from barscribe.needs import least_books
from barscribe.shapes import Book
from tests.notes import all_points, as_lists, chosen_book, small_book, with_each_bent
from tests.reference import to_time
from tests.values import CUT, OTHERS, SIXTEEN, TREES

BIG = 10 ** 59


def near_points(metre, onset, slip, depth):
    """All points that are allowed, found by going through all places."""
    points = all_points(metre, depth)[:-1]
    return [point for point in points if abs(to_time(point) - Fraction(*onset)) <= Fraction(*slip)]


def is_ascending(points):
    return all(x < y for x, y in zip(points, points[1:]))


class Question:
    """Onsets with all that can be asked of them, by going through all tuples of points."""

    def __init__(self, metre, book, onsets, slip, depth):
        self.metre, self.book = metre, book
        self.told = (onsets, slip, depth)
        self.rows = [near_points(metre, onset, slip, depth) for onset in onsets]
        self.known = {}

    def signs(self, x, y):
        if (x, y) not in self.known:
            self.known[x, y] = 0 if x == y else fewest(self.metre, self.book, x, y)
        return self.known[x, y]

    def total(self, points):
        stops = ((0, ""), *points, (self.metre.pulses, ""))
        return sum(self.signs(x, y) for x, y in zip(stops, stops[1:]))

    def hearings(self):
        return [points for points in product(*self.rows) if is_ascending(points)]

    def best(self):
        """The fewest signs, and all hearings with so many, ascending."""
        totals = {points: self.total(points) for points in self.hearings()}
        least = min(totals.values())
        return least, sorted(points for points in totals if totals[points] == least)

    def stuck(self):
        before = None
        for index, row in enumerate(self.rows):
            later = [point for point in row if before is None or point > before]
            if not later:
                return (index, before)
            before = later[0]
        return None

    def shows(self, number, values):
        """Point 25, word by word, for a dict with the right keys."""
        for index, row in enumerate(self.rows):
            for point in row:
                if index == 0:
                    tops = [self.signs((0, ""), point)]
                else:
                    before = [other for other in self.rows[index - 1] if other < point]
                    tops = [values[index - 1, other] + self.signs(other, point) for other in before]
                if any(values[index, point] > top for top in tops):
                    return False
        last = len(self.rows) - 1
        return all(values[last, point] + self.signs(point, (self.metre.pulses, "")) >= number for point in self.rows[last])

    def keys(self):
        return [(index, point) for index, row in enumerate(self.rows) for point in row]

    def tell(self):
        return (self.metre.tree, self.book.extra, *self.told)


def questions(seed, many, ascending=True):
    """Small questions with few points for each onset."""
    chance = Random(seed)
    while many:
        metre = Metre(chance.choice(TREES[:6] + CUT[:1]))
        depth, count = chance.choice([0, 1, 2, 3, 4, 8]), chance.randrange(1, 5)
        scale = chance.choice([1, 2, 3, 5, 12, 16, 60, 256])
        onsets = [chance.randrange(metre.pulses * scale + 1) for _ in range(count)]
        onsets = [(number, scale) for number in (sorted(onsets) if ascending else onsets)]
        slip = (chance.randrange(1, 5), chance.choice([2, 3, 4, 8, 2 ** depth, 2 ** depth * 3]))
        rows = [near_points(metre, onset, slip, depth) for onset in onsets]
        size = 1
        for row in rows:
            size *= len(row)
        if size <= 400 and max(map(len, rows)) <= 40:
            many -= 1
            yield Question(metre, chosen_book(chance), onsets, slip, depth)


class AllowedTest(unittest.TestCase):
    def test_by_going_through_all_places(self):
        chance, sizes = Random(1), set()
        for _ in range(500):
            metre = Metre(chance.choice(TREES))
            depth = chance.choice([0, 1, 2, 3, 5])
            base = chance.choice([1, 2, 3, 7, 10, 64, 96])
            onset, slip = (chance.randrange(metre.pulses * base + 1), base), (chance.randrange(4), chance.randrange(1, 40))
            wanted = near_points(metre, onset, slip, depth)
            sizes.add(len(wanted))
            if len(wanted) > 40:
                with self.assertRaises(TooMany) as caught:
                    allowed(metre, onset, slip, depth)
                self.assertEqual(caught.exception.most, 40)
            else:
                self.assertEqual(allowed(metre, onset, slip, depth), wanted)
        self.assertTrue({0, 1, 2, 5} <= sizes and max(sizes) > 40)

    def test_exactly_the_slip_away(self):
        metre = Metre((1, 1))
        self.assertEqual(allowed(metre, (1, 2), (1, 8), 3), [(0, "011"), (0, "1"), (0, "101")])
        self.assertEqual(allowed(metre, (1, 2), (BIG - 1, 8 * BIG), 3), [(0, "1")])
        self.assertEqual(allowed(metre, (BIG, 2 * BIG), (BIG + 1, 8 * BIG), 3), [(0, "011"), (0, "1"), (0, "101")])
        self.assertEqual(allowed(metre, (1, 2), (0, 5), 3), [(0, "1")])
        self.assertEqual(allowed(metre, (1, 3), (0, 5), 8), [])

    def test_the_ends_of_the_bar(self):
        metre = Metre((1, 1))
        self.assertEqual(allowed(metre, (0, 1), (1, 4), 2), [(0, ""), (0, "01")])
        self.assertEqual(allowed(metre, (2, 1), (1, 4), 2), [(1, "11")])
        self.assertEqual(allowed(metre, (2, 1), (0, 1), 8), [])
        self.assertEqual(allowed(metre, (4, 2), (1, 1), 0), [(1, "")])
        self.assertEqual(allowed(metre, (1, 1), (BIG, 1), 0), [(0, ""), (1, "")])

    def test_fractions_not_in_lowest_terms(self):
        metre = Metre((1, 1, 1))
        for factor in (1, 2, 6, 10 ** 58):
            found = allowed(metre, (4 * factor, 3 * factor), (5 * factor, 24 * factor), 3)
            self.assertEqual(found, allowed(metre, (4, 3), (5, 24), 3))

    def test_more_than_forty(self):
        metre = Metre((1, 1))
        self.assertEqual(len(allowed(metre, (1, 1), (39, 512), 8)), 39)
        self.assertEqual(len(allowed(metre, (513, 512), (39, 512), 8)), 40)
        with self.assertRaises(TooMany):
            allowed(metre, (1, 1), (20, 256), 8)
        self.assertEqual(len(allowed(metre, (0, 1), (39, 256), 8)), 40)
        with self.assertRaises(TooMany):
            allowed(metre, (0, 1), (40, 256), 8)

    def test_errors_in_their_order(self):
        metre = Metre((1, 1))
        fractions = [(-1, 2), (1, 0), (1, -1), (1,), (1, 2, 3), [1, 2], (True, 1), (1, True), ("1", 2), (None, 1), (1, None)]
        for thing in OTHERS + fractions + [(5, 2), (2 * BIG + 1, BIG)]:
            for slip, depth in (((1, 2), 1), (None, None)):
                with self.assertRaises(BadOnset) as caught:
                    allowed(metre, thing, slip, depth)
                self.assertEqual(caught.exception.index, 0)
        for thing in OTHERS + fractions:
            for depth in (1, None):
                with self.assertRaises(BadSlip):
                    allowed(metre, (1, 2), thing, depth)
        for thing in (-1, 9, None, True, False, "1", (1,), [1], BIG):
            with self.assertRaises(BadDepth):
                allowed(metre, (1, 2), (BIG, 1), thing)
        self.assertEqual(allowed(depth=1, slip=(1, 2), onset=(1, 2), metre=metre), [(0, ""), (0, "1"), (1, "")])


class ErrorsTest(unittest.TestCase):
    metre = Metre((1, 1))

    def ask(self, onsets, slip, depth):
        """What all functions of a list of onsets raise."""
        found = []
        calls = [
            lambda: heard(self.metre, Book(), onsets, slip, depth), lambda: is_hearing(self.metre, onsets, slip, depth, None),
            lambda: is_least(self.metre, Book(), onsets, slip, depth, None, None),
            lambda: best_points(self.metre, Book(), onsets, slip, depth),
        ]
        for call in calls:
            try:
                call()
                found.append(None)
            except (BadOnset, TooMany) as error:
                found.append((type(error), error.index if isinstance(error, BadOnset) else error.most))
            except (BadSlip, BadDepth) as error:
                found.append(type(error))
        self.assertEqual(found, found[:1] * 4)
        return found[0]

    def test_in_their_order(self):
        good = (1, 2)
        for thing in OTHERS + [[good] * 17, (good,) * 17, [good] * 16 + [None], {0: good}, "12"]:
            if not isinstance(thing, (list, tuple)) or not 1 <= len(thing) <= 16:
                self.assertEqual(self.ask(thing, None, None), (BadOnset, 0))
        for thing in (None, (5, 2), (1, 0), [1, 2], (True, 2), (-1, 2)):
            for at in range(3):
                onsets = [good] * at + [thing, None] + [good] * (2 - at)
                self.assertEqual(self.ask(onsets, None, None), (BadOnset, at))
                self.assertEqual(self.ask(tuple(onsets), (1, 2), 1), (BadOnset, at))
        for slip in (None, (-1, 2), (1, 0), [1, 2], (1, True)):
            self.assertEqual(self.ask([good], slip, None), BadSlip)
        for depth in (None, -1, 9, True, "1"):
            self.assertEqual(self.ask([good], (1, 1), depth), BadDepth)
        self.assertEqual(self.ask([(0, 1), (1, 1)], (20, 256), 8), (TooMany, 40))
        self.assertEqual(self.ask([(1, 1), (0, 1)], (40, 256), 8), (TooMany, 40))
        # More than 40 for an onset that comes behind one that gets no point.
        self.assertEqual(self.ask([(1, 3), (1, 2)], (BIG, 1), 8), (TooMany, 40))


class HeardTest(unittest.TestCase):
    def check(self, question):
        metre, book, told = question.metre, question.book, question.told
        stuck = question.stuck()
        answer = heard(metre, book, *told)
        hearings = question.hearings()
        self.assertEqual(stuck is None, bool(hearings))
        if stuck is not None:
            self.assertEqual(answer, ("none", *stuck))
            with self.assertRaises(BadOnset) as caught:
                best_points(metre, book, *told)
            self.assertEqual(caught.exception.index, stuck[0])
            return False
        least, rows = question.best()
        kind, signs, points, potentials = answer
        self.assertEqual((kind, signs, points), ("heard", least, rows[0]), question.tell())
        self.assertEqual(list(potentials), question.keys())
        self.assertTrue(all(type(value) is int for value in potentials.values()))
        self.assertTrue(question.shows(least, potentials), question.tell())
        self.assertIs(is_least(metre, book, *told, least, potentials), True)
        self.assertIs(is_least(metre, book, *told, least + 1, potentials), False)
        self.assertTrue(is_hearing(metre, *told, points))
        wanted = [tuple(sorted({row[at] for row in rows})) for at in range(len(told[0]))]
        self.assertEqual(best_points(metre, book, *told), wanted)
        return True

    def test_against_all_hearings(self):
        found = [self.check(question) for question in questions(2, 250)]
        self.assertGreater(min(found.count(True), found.count(False)), 20)

    def test_onsets_in_any_order(self):
        found = [self.check(question) for question in questions(3, 150, False)]
        self.assertGreater(min(found.count(True), found.count(False)), 20)

    def test_points_that_no_way_leads_to(self):
        # The second onset may be before the first one, and the third one before both.
        metre = Metre((1, 1))
        for onsets in ([(1, 1), (1, 1)], [(1, 1), (7, 8), (1, 1)], [(1, 1), (3, 4), (3, 4), (1, 1)], [(3, 2), (1, 1), (1, 1)]):
            for slip in ((1, 4), (3, 8), (1, 2), (5, 8)):
                for book in (Book(), Book.every()):
                    self.check(Question(metre, book, onsets, slip, 3))

    def test_a_point_at_the_beginning_of_the_bar(self):
        self.assertEqual(heard(Metre((1, 1)), Book(), [(0, 1)], (0, 1), 3), ("heard", 1, ((0, ""),), {(0, (0, "")): 0}))
        self.assertEqual(heard(Metre((1, 1)), Book(), [(2, 1)], (1, 9), 3), ("none", 0, None))
        self.assertEqual(heard(Metre((1, 1)), Book(), [(1, 1), (1, 1)], (0, 1), 3), ("none", 1, (1, "")))

    def test_tuples_names_and_equal_answers(self):
        metre, book, onsets = Metre((1, 1, 1)), Book([(0, 1, 1)]), [(1, 3), (4, 3), (7, 3)]
        first = heard(metre, book, onsets, (1, 6), 4)
        self.assertEqual(heard(depth=4, slip=(1, 6), onsets=tuple(onsets), book=book, metre=metre), first)
        found = best_points(depth=4, slip=(1, 6), onsets=tuple(onsets), book=book, metre=metre)
        self.assertEqual(found, best_points(metre, book, onsets, (1, 6), 4))
        first[3].clear()
        again = heard(metre, book, onsets, (1, 6), 4)
        self.assertEqual(list(again[3]), Question(metre, book, onsets, (1, 6), 4).keys())
        self.assertEqual(onsets, [(1, 3), (4, 3), (7, 3)])


class LongTest(unittest.TestCase):
    def sums(self, question):
        """For each onset the fewest signs to each point from the beginning, and from it to the end of the bar."""
        signs, finish = question.signs, (question.metre.pulses, "")
        ahead = [{point: signs((0, ""), point) for point in question.rows[0]}]
        for row in question.rows[1:]:
            ways = {point: [more + signs(x, point) for x, more in ahead[-1].items() if x < point] for point in row}
            ahead.append({point: min(way) for point, way in ways.items() if way})
        behind = [{point: signs(point, finish) for point in question.rows[-1]}]
        for row in question.rows[-2::-1]:
            ways = {point: [more + signs(point, y) for y, more in behind[0].items() if point < y] for point in row}
            behind.insert(0, {point: min(way) for point, way in ways.items() if way})
        return ahead, behind

    def test_against_sums_from_both_ends(self):
        chance = Random(4)
        for tree, many in ((SIXTEEN, 16), (SIXTEEN, 12), (CUT[3], 10), (TREES[-1], 16), ((1, 1), 9)):
            metre, book, depth = Metre(tree), chosen_book(chance), chance.choice([3, 4, 8])
            onsets = sorted(chance.randrange(metre.pulses * 100) for _ in range(many))
            slip = (9, 2 * 2 ** depth)
            question = Question(metre, book, [(number, 100) for number in onsets], slip, depth)
            if question.stuck() is not None:
                continue
            ahead, behind = self.sums(question)
            kind, signs, points, potentials = heard(metre, book, *question.told)
            least = min(ahead[-1][point] + behind[-1][point] for point in ahead[-1])
            self.assertEqual((kind, signs, question.total(points)), ("heard", least, least))
            self.assertTrue(is_hearing(metre, *question.told, points))
            self.assertTrue(question.shows(least, potentials))
            self.assertTrue(is_least(metre, book, *question.told, least, potentials))
            self.assertFalse(is_least(metre, book, *question.told, least + 1, potentials))
            wanted = [
                tuple(sorted(point for point in one if point in other and one[point] + other[point] == least))
                for one, other in zip(ahead, behind)
            ]
            self.assertEqual(best_points(metre, book, *question.told), wanted)
            # The first point is the least one; each further one is the least one behind it.
            before, total = (0, ""), least
            for index, point in enumerate(points):
                total -= question.signs(before, point)
                ways = [
                    other for other in wanted[index] if (other > before or index == 0)
                    and question.signs(before, other) + behind[index][other] == total + question.signs(before, point)
                ]
                self.assertEqual(point, min(ways))
                before = point


class FactsTest(unittest.TestCase):
    def test_wider_deeper_and_more_shapes_never_need_more(self):
        for question in questions(5, 60):
            metre, book, (onsets, slip, depth) = question.metre, question.book, question.told
            first = heard(metre, book, *question.told)
            if first[0] == "none":
                continue
            try:
                wider = heard(metre, book, onsets, (slip[0] * 4 + 1, slip[1] * 4), depth)
                self.assertLessEqual(wider[1], first[1])
            except TooMany:
                pass
            if depth < 8:
                try:
                    self.assertLessEqual(heard(metre, book, onsets, slip, depth + 1)[1], first[1])
                except TooMany:
                    pass
            for more in (Book([(1, -1, 1), (0, 1, 1)]), Book.every()):
                self.assertLessEqual(heard(metre, book | more, *question.told)[1], first[1])

    def test_least_books_hear_with_as_many_signs(self):
        chance, many = Random(6), 0
        for question in questions(7, 25):
            metre, book = question.metre, small_book(chance, 8)
            for row in least_books(metre, book):
                one, other = [heard(metre, shapes, *question.told) for shapes in (book, Book(row))]
                self.assertEqual(one[:3], other[:3])
                many += one[0] == "heard"
        self.assertGreater(many, 5)


class JudgingTest(unittest.TestCase):
    def test_is_hearing_for_all_tuples(self):
        for question in questions(8, 40):
            found = set(question.hearings())
            for points in list(product(*question.rows))[:60]:
                self.assertIs(is_hearing(question.metre, *question.told, points), points in found)

    def test_is_hearing_for_each_way_to_miss_the_form(self):
        metre, told = Metre((1, 1)), ([(1, 3), (3, 2)], (1, 6), 3)
        points = heard(metre, Book(), *told)[2]
        self.assertTrue(is_hearing(thing=points, depth=3, slip=(1, 6), onsets=tuple(told[0]), metre=metre))
        first, last = points
        wrong = [
            list(points), (first,), (), (first, last, last), (last, first), (first, first), ((0, ""), last), (first, (2, "")),
            (first, (1, "1000")), (first, (1, "0111")), (first, None), (None, last), [], {}, (first, (True, last[1])),
            ((False, first[1]), last),
        ]
        for thing in OTHERS + wrong + list(as_lists(points)):
            self.assertIs(is_hearing(metre, *told, thing), False)

    def test_is_least_with_values_changed(self):
        kept = 0
        for question in questions(9, 14):
            metre, book, told = question.metre, question.book, question.told
            answer = heard(metre, book, *told)
            if answer[0] == "none":
                continue
            _, signs, _, potentials = answer
            for key in potentials:
                for more in (-1, 1, 5, -BIG, BIG):
                    thing = {**potentials, key: potentials[key] + more}
                    for number in (signs, signs - 1, signs + 1, 0, -BIG):
                        wanted = question.shows(number, thing)
                        self.assertIs(is_least(metre, book, *told, number, thing), wanted)
                        kept += wanted
            backwards = dict(reversed(potentials.items()))
            self.assertTrue(is_least(metre, book, *told, signs, backwards))
        self.assertGreater(kept, 20)

    def test_is_least_for_each_way_to_miss_the_form(self):
        metre, book, told = Metre((1, 1)), Book(), ([(1, 3), (3, 2)], (1, 6), 3)
        _, signs, _, potentials = heard(metre, book, *told)
        named = {"onsets": told[0], "slip": told[1], "depth": told[2], "metre": metre, "book": book}
        self.assertTrue(is_least(thing=potentials, signs=signs, **named))
        for number in (None, True, False, "1", (1,), [1], {}, metre):
            self.assertIs(is_least(metre, book, *told, number, potentials), False)
        for thing in OTHERS + [list(potentials.items()), list(potentials)]:
            self.assertIs(is_least(metre, book, *told, signs, thing), False)
        for key in potentials:
            rest = {other: value for other, value in potentials.items() if other != key}
            self.assertIs(is_least(metre, book, *told, signs, rest), False)
            for value in (None, True, False, "1", (1,), [1]):
                self.assertIs(is_least(metre, book, *told, signs, {**rest, key: value}), False)
            for bent in with_each_bent(key, [None, True, False, 2, "1", (0, ""), ()]):
                if bent not in potentials:
                    self.assertIs(is_least(metre, book, *told, signs, {**rest, bent: -5}), False)
                    self.assertIs(is_least(metre, book, *told, signs, {**potentials, bent: -5}), False)
                elif type(bent[0]) is bool or type(bent[1][0]) is bool:
                    thing = {**rest, bent: potentials[key]}
                    if thing == potentials:
                        self.assertIs(is_least(metre, book, *told, signs, thing), False)

    def test_is_least_where_there_is_no_hearing(self):
        # The second onset gets no point behind the first one; its values are free, and so are all numbers of signs.
        metre, told = Metre((1, 1)), ([(1, 1), (1, 2)], (0, 1), 1)
        self.assertEqual(heard(metre, Book(), *told), ("none", 1, (1, "")))
        for value in (0, 7, BIG):
            thing = {(0, (1, "")): 1, (1, (0, "1")): value}
            self.assertIs(is_least(metre, Book(), *told, value + 2, thing), True)
            self.assertIs(is_least(metre, Book(), *told, value + 3, thing), False)
        self.assertIs(is_least(metre, Book(), *told, 0, {(0, (1, "")): 2, (1, (0, "1")): 1}), False)
        # An onset without any point, too.
        self.assertIs(is_least(metre, Book(), [(1, 3)], (0, 1), 8, BIG, {}), True)
        self.assertIs(is_hearing(metre, [(1, 3)], (0, 1), 8, ()), False)


if __name__ == "__main__":
    unittest.main()
