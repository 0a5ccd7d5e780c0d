"""barscribe.groups: points 45 to 49 of the document."""

import time
import unittest
from fractions import Fraction
from itertools import combinations
from random import Random

from barscribe.errors import BadFigure, BadGroups, BadMetre, BadNumber, NoGrouping
from barscribe.far import best, fewest
from barscribe.groups import (
    Figure, are_floors, best_grouping, count_groupings, floors, frames, group_writing, grouping_signs, groupings, is_obstacle,
    least_frame, obstacle,
)
from barscribe.metres import Metre
from barscribe.moving import signs, written
from barscribe.rhythms import Rhythm
from barscribe.shapes import Book
from tests.notes import chosen_book
from tests.reference import odd_part, to_point
from tests.values import CUT, OTHERS, SIXTEEN, TREES

OWN = {3: (1, 1, 1), 5: ((1, 1, 1), (1, 1)), 7: ((1, 1, 1), (1, 1), (1, 1))}

METRES = [1, (1, 1), (1, 1, 1), ((1, 1), (1, 1)), (1, (1, 1)), ((1, 1), 1), ((1, 1, 1), (1, 1, 1)), CUT[0]]


def told(time):
    return (time.numerator, time.denominator)


def times_of(figure):
    return [Fraction(*border) for border in figure.borders]


def cells_by_words(metre):
    """All cells, down to eighths of a pulse and a little more, as pairs of fractions."""
    found = {(begin, end) for begin, end, _ in metre.nodes() if odd_part(end - begin) == 1}
    for j in range(8):
        for k in range(metre.pulses << j):
            found.add((Fraction(k, 2 ** j), Fraction(k + 1, 2 ** j)))
    return found


def frames_by_words(figure):
    times, cells = times_of(figure), cells_by_words(figure.metre)
    plain = [odd_part(time.denominator) == 1 for time in times]
    pairs = combinations(range(len(times)), 2)
    return [
        (first, last) for first, last in pairs
        if plain[first] and plain[last] and (times[first], times[last]) in cells and not all(plain[first + 1:last])
    ]


def groups_by_words(figure):
    kinds = [odd_part(time.denominator) for time in times_of(figure)]
    found = []
    for first, last in frames_by_words(figure):
        found.extend((first, last, n) for n in (3, 5, 7) if all(kind in (1, n) for kind in kinds[first + 1:last]))
    return found


def groupings_by_words(figure):
    """All groupings, among all sets of groups."""
    groups, found = groups_by_words(figure), []
    uneven = {index for index, time in enumerate(times_of(figure)) if odd_part(time.denominator) > 1}
    for many in range(len(groups) + 1):
        for row in combinations(groups, many):
            apart = all(one[1] <= other[0] for one, other in zip(row, row[1:]))
            if apart and all(any(first < index < last for first, last, _ in row) for index in uneven):
                found.append(row)
    return sorted(found)


def group_point(time, begin, end, n):
    return to_point((time - begin) / (end - begin) * n)


def notes_by_words(figure, groups):
    """For each note the tree of its metre, 1 or n, and its points."""
    times = times_of(figure)
    for index in range(len(times) - 1):
        inside = [group for group in groups if group[0] <= index < group[1]]
        if inside:
            first, last, n = inside[0]
            yield OWN[n], n, *[group_point(times[at], times[first], times[last], n) for at in (index, index + 1)]
        else:
            yield figure.metre.tree, 1, to_point(times[index]), to_point(times[index + 1])


def signs_by_words(figure, book, groups):
    return sum(fewest(Metre(tree), book, x, y) for tree, _, x, y in notes_by_words(figure, groups))


def are_floors_by_words(figure, book, value):
    """Point 49, word by word, for a list of the right length."""
    times, groups = times_of(figure), groups_by_words(figure)
    plain = [odd_part(time.denominator) == 1 for time in times]
    if not all(type(entry) is (int if even else type(None)) for entry, even in zip(value, plain)) or value[0] != 0:
        return False
    for index in range(len(times) - 1):
        if plain[index] and plain[index + 1]:
            more = fewest(figure.metre, book, to_point(times[index]), to_point(times[index + 1]))
            if value[index + 1] > value[index] + more:
                return False
    for first, last, n in groups:
        points = [group_point(time, times[first], times[last], n) for time in times[first:last + 1]]
        if value[last] > value[first] + sum(fewest(Metre(OWN[n]), book, x, y) for x, y in zip(points, points[1:])):
            return False
    return True


def some_figure(chance, trees=METRES, kinds=(1, 1, 3, 3, 5, 7, 9), most=8):
    """A figure with some borders, of which those that are not plain lie in some cells of their kind."""
    metre = Metre(chance.choice(trees))
    cells = sorted(cells_by_words(metre) & {cell for cell in cells_by_words(metre) if (cell[1] - cell[0]) * 4 >= 1})
    times = {Fraction(0), Fraction(metre.pulses)}
    chosen = [chance.choice(kinds) for _ in range(2)]
    for _ in range(chance.randrange(most)):
        begin, end = chance.choice(cells)
        kind = chance.choice(chosen)
        if chance.random() < 0.7:
            times |= {begin, end}
        parts = kind * chance.choice([1, 1, 2])
        times.add(begin + Fraction(chance.randrange(parts + 1), parts) * (end - begin))
    return Figure(metre, [told(time) for time in sorted(times)])


def figures(seed, many, **more):
    chance = Random(seed)
    return [some_figure(chance, **more) for _ in range(many)]


def thirds(tree, most=40):
    """A bar with borders at the first thirds and the ends, as many as there may be."""
    metre = Metre(tree)
    borders = [told(Fraction(number, 3)) for number in range(3 * metre.pulses)]
    return Figure(metre, borders[:most - 1] + [(metre.pulses, 1)])


class FigureTest(unittest.TestCase):
    def test_metre_and_borders(self):
        metre, borders = Metre((1, 1)), [(0, 1), (1, 3), (3, 2), (2, 1)]
        for told_borders in (borders, tuple(borders)):
            figure = Figure(metre, told_borders)
            self.assertEqual((figure.metre, figure.borders, len(figure)), (metre, tuple(borders), 3))
            self.assertIsInstance(figure.borders, tuple)
        self.assertEqual(Figure(borders=borders, metre=metre), figure)
        self.assertTrue({"metre", "borders"} <= set(vars(figure)))
        borders[1] = (1, 2)
        borders.pop()
        self.assertEqual(figure.borders, ((0, 1), (1, 3), (3, 2), (2, 1)))
        self.assertEqual(len(Figure(Metre(1), [(0, 1), (1, 1)])), 1)

    def test_equality(self):
        borders = [(0, 1), (1, 3), (2, 1)]
        one = Figure(Metre((1, 1)), borders)
        self.assertTrue(one == Figure(Metre((1, 1)), tuple(borders)) and not one != Figure(Metre((1, 1)), borders))
        self.assertFalse(one == Figure(Metre((1, 1)), [(0, 1), (2, 3), (2, 1)]))
        four = [(0, 1), (4, 1)]
        self.assertFalse(Figure(Metre(((1, 1), (1, 1))), four) == Figure(Metre((1, (1, 1), 1)), four))
        for thing in OTHERS + [tuple(borders), borders, (Metre((1, 1)), tuple(borders))]:
            self.assertFalse(one == thing)
            self.assertFalse(thing == one)
            self.assertTrue(one != thing)

    def test_bad_metres_ahead_of_bad_figures(self):
        for thing in OTHERS:
            if not isinstance(thing, Metre):
                for borders in ([(0, 1), (1, 1)], None, []):
                    with self.assertRaises(BadMetre):
                        Figure(thing, borders)

    def wrong(self, borders, index, tree=(1, 1)):
        with self.assertRaises(BadFigure) as caught:
            Figure(Metre(tree), borders)
        self.assertEqual(caught.exception.index, index)

    def test_the_first_wrong_border(self):
        good = [(0, 1), (1, 3), (1, 1), (3, 2), (2, 1)]
        wrong = [
            None, 0, (), (1,), (1, 1, 1), [1, 1], (2, 2), (2, 6), (0, 2), (1, 0), (1, -1), (-1, 1), (-1, 3), (9, 4), (3, 1), (7, 3),
            (1, 10 ** 9 + 1), (1, 10 ** 60), (10 ** 60, 1), (True, 1), (True, 3), (1, True), ("1", 1), (1, "3"), (None, 1), "1",
            {}, Metre(1), ((1,), 3),
        ]
        for at in range(5):
            for border in wrong:
                self.wrong(good[:at] + [border] + good[at + 1:], at)
                self.wrong(tuple(good[:at] + [border, None]), at)
        for border in OTHERS:
            self.wrong([border] + good[1:], 0)

    def test_the_order_of_borders(self):
        self.wrong([(1, 3), (2, 1)], 0)
        self.wrong([(0, 1), (0, 1), (2, 1)], 1)
        self.wrong([(0, 1), (1, 2), (1, 2), (2, 1)], 2)
        self.wrong([(0, 1), (1, 2), (1, 3), None, (2, 1)], 2)
        self.wrong([(0, 1), (2, 3), (333333333, 500000000), (2, 1)], 2)
        self.assertEqual(len(Figure(Metre((1, 1)), [(0, 1), (333333333, 500000000), (2, 3), (2, 1)])), 3)
        self.wrong([(0, 1), (2, 1), (2, 1)], 2)
        self.wrong([(0, 1), (2, 1), (1, 1)], 2)

    def test_the_end_of_the_bar_is_missing(self):
        self.wrong([], 0)
        self.wrong([(0, 1)], 1)
        self.wrong([(0, 1), (1, 3), (1, 1)], 3)
        self.wrong([(0, 1), (1999999999, 1000000000)], 2)

    def test_forty_borders(self):
        many = [told(Fraction(number, 25)) for number in range(50)]
        self.assertEqual(len(Figure(Metre((1, 1)), many[:39] + [(2, 1)])), 39)
        self.wrong(many[:40], 40)
        self.wrong(many[:40] + [(2, 1)], 40)
        self.wrong(many + [(2, 1)], 40)
        self.wrong(many[:40] + [None], 40)
        self.wrong(many[:39] + [(2, 1), (2, 1)], 40)
        for at in (0, 7, 39):
            self.wrong(many[:at] + [None] + many[at:], at)

    def test_no_list(self):
        for thing in OTHERS:
            if not isinstance(thing, (list, tuple)):
                self.wrong(thing, 0)
        self.wrong({(0, 1): 1, (2, 1): 1}, 0)

    def test_denominators(self):
        for parts in (1, 2, 3, 999999999, 10 ** 9):
            border = (parts - 1, parts) if parts > 1 else (1, 1)
            self.assertEqual(Figure(Metre((1, 1)), [(0, 1), border, (2, 1)]).borders[1], border)

    def test_kind(self):
        borders = [(0, 1), (1, 1024), (1, 3), (5, 12), (3, 5), (9, 14), (2, 3), (13, 18), (7, 8), (9, 10), (999999999, 10 ** 9), (1, 1)]
        figure = Figure(Metre(1), borders)
        wanted = [1, 1, 3, 3, 5, 7, 3, 9, 1, 5, 1953125, 1]
        self.assertEqual([figure.kind(index) for index in range(12)], wanted)
        self.assertEqual(figure.kind(index=4), 5)
        for index in (-1, 12, 10 ** 60, True, False, None, "0", (0,), [0], {}):
            with self.assertRaises(BadNumber):
                figure.kind(index)


class FramesTest(unittest.TestCase):
    def test_against_the_words(self):
        for figure in figures(1, 300):
            found = frames(figure)
            self.assertEqual(found, sorted(frames_by_words(figure)))
            self.assertEqual(type(found), list)
        self.assertEqual(frames(figure=figure), found)

    def test_nodes_the_root_and_stretches_over_pulses(self):
        third = (1, 3)
        self.assertEqual(frames(Figure(Metre(((1, 1), (1, 1))), [(0, 1), third, (1, 1), (2, 1), (4, 1)])), [(0, 2), (0, 3), (0, 4)])
        # A node of three pulses, and a bar of three, are no cells; two pulses that are no node are none.
        self.assertEqual(frames(Figure(Metre((1, 1, 1)), [(0, 1), third, (2, 1), (3, 1)])), [])
        self.assertEqual(frames(Figure(Metre((1, 1, 1)), [(0, 1), third, (1, 1), (3, 1)])), [(0, 2)])
        self.assertEqual(frames(Figure(Metre((1, (1, 1))), [(0, 1), (1, 1), (4, 3), (3, 1)])), [(1, 3)])
        self.assertEqual(frames(Figure(Metre((1, (1, 1), 1)), [(0, 1), (1, 1), (4, 3), (3, 1), (4, 1)])), [(0, 4), (1, 3)])
        self.assertEqual(frames(Figure(Metre(((1, 1), (1, 1))), [(0, 1), (1, 1), (4, 3), (3, 1), (4, 1)])), [(0, 4)])
        self.assertEqual(frames(Figure(Metre(SIXTEEN), [(0, 1), third, (16, 1)])), [(0, 2)])

    def test_halves_of_a_pulse(self):
        half, quarter, third = (1, 2), (1, 4), (1, 3)
        self.assertEqual(frames(Figure(Metre(1), [(0, 1), quarter, third, half, (1, 1)])), [(0, 3), (0, 4), (1, 3)])
        # From 1/4 to 3/4 it is half a pulse, but no cell.
        self.assertEqual(frames(Figure(Metre(1), [(0, 1), quarter, third, (3, 4), (1, 1)])), [(0, 4)])
        self.assertEqual(frames(Figure(Metre((1, 1)), [(0, 1), half, (2, 3), (3, 2), (2, 1)])), [(0, 4)])
        tiny = 2 ** 28
        figure = Figure(Metre(1), [(0, 1), (1, tiny), told(Fraction(4, 3 * tiny)), told(Fraction(2, tiny)), (1, 1)])
        self.assertEqual(frames(figure), [(0, 3), (0, 4), (1, 3)])

    def test_frames_have_a_border_inside_that_is_not_plain(self):
        self.assertEqual(frames(Figure(Metre((1, 1)), [(0, 1), (1, 2), (1, 1), (4, 3), (2, 1)])), [(0, 4), (2, 4)])

    def test_least_frame(self):
        several = 0
        for figure in figures(2, 200):
            times, found = times_of(figure), frames_by_words(figure)
            for index, time in enumerate(times):
                if odd_part(time.denominator) == 1:
                    with self.assertRaises(BadNumber):
                        least_frame(figure, index)
                    continue
                around = [frame for frame in found if frame[0] < index < frame[1]]
                wanted = min(around, key=lambda frame: times[frame[1]] - times[frame[0]], default=None)
                self.assertEqual(least_frame(figure, index), wanted)
                several += len(around) > 1
        self.assertGreater(several, 50)
        figure = Figure(Metre((1, 1)), [(0, 1), (1, 3), (1, 1), (2, 1)])
        self.assertEqual(least_frame(index=1, figure=figure), (0, 2))
        for index in (-1, 4, 10 ** 60, True, False, None, "1", (1,), [1], {}, 0, 2, 3):
            with self.assertRaises(BadNumber):
                least_frame(figure, index)


class ObstacleTest(unittest.TestCase):
    def by_words(self, figure):
        """All obstacles."""
        kinds = [odd_part(time.denominator) for time in times_of(figure)]
        uneven = [index for index, kind in enumerate(kinds) if kind > 1]
        alone, two = [], []
        for index in uneven:
            frame = least_frame(figure, index)
            if kinds[index] not in (3, 5, 7) or frame is None:
                alone.append(("alone", index))
            for other in uneven:
                if frame and frame[0] < other < frame[1] and kinds[index] != kinds[other]:
                    two.append(("two", index, other))
        return alone, two

    def test_exactly_if_there_is_no_grouping(self):
        seen = {"alone": 0, "two": 0, None: 0}
        for figure in figures(3, 200, most=5) + figures(17, 200, kinds=(1, 3, 5, 7), most=5, trees=METRES[:4]):
            alone, two = self.by_words(figure)
            found = obstacle(figure)
            self.assertEqual(found, (alone + two + [None])[0])
            self.assertEqual(found is None, bool(groupings_by_words(figure)))
            seen[found and found[0]] += 1
            for index in range(len(figure.borders)):
                self.assertIs(is_obstacle(figure, ("alone", index)), ("alone", index) in alone)
                for other in range(len(figure.borders)):
                    self.assertIs(is_obstacle(figure, ("two", index, other)), ("two", index, other) in two)
        self.assertGreater(min(seen.values()), 5)

    def test_one_that_is_inside_the_frame_of_another_one_but_not_the_other_way_round(self):
        figure = Figure(Metre((1, 1)), [(0, 1), (1, 6), (1, 2), (6, 5), (2, 1)])
        self.assertEqual([least_frame(figure, index) for index in (1, 3)], [(0, 2), (0, 4)])
        self.assertEqual(obstacle(figure), ("two", 3, 1))
        self.assertIs(is_obstacle(figure, ("two", 3, 1)), True)
        self.assertIs(is_obstacle(figure, ("two", 1, 3)), False)
        self.assertEqual((count_groupings(figure), list(groupings(figure))), (0, []))

    def test_a_kind_of_its_own_with_a_frame(self):
        figure = Figure(Metre(1), [(0, 1), (1, 9), (1, 3), (1, 1)])
        self.assertEqual(obstacle(figure=figure), ("alone", 1))
        for value, wanted in ((("alone", 1), True), (("alone", 2), False), (("two", 1, 2), True), (("two", 2, 1), True)):
            self.assertIs(is_obstacle(value=value, figure=figure), wanted)

    def test_any_value(self):
        figure = Figure(Metre((1, 1)), [(0, 1), (1, 3), (6, 5), (2, 1)])
        self.assertIs(is_obstacle(figure, ("two", 1, 2)), True)
        wrong = [
            ("two", 1), ("two", 1, 1), ("two", 1, 2, 3), ["two", 1, 2], ("alone", 1, 2), ("Two", 1, 2), ("two", True, 2), ("two", 1, "2"),
            ("two", 0, 2), ("two", 1, 3), ("two", -1, 2), ("two", 1, 4), ("two", 10 ** 60, 2), ("alone", True), ("alone",), ("two",),
            (None, 1, 2), (["two"], 1, 2), ("alone", 1), ("alone", [1]), (Book(), 1, 2), "two",
        ]
        for value in OTHERS + wrong:
            self.assertIs(is_obstacle(figure, value), False)
        lonely = Figure(Metre((1, 1, 1)), [(0, 1), (1, 3), (2, 1), (3, 1)])
        self.assertIs(is_obstacle(lonely, ("alone", 1)), True)
        others = [("alone", True), ("alone", 0), ("alone", 2), ("alone", 4), ["alone", 1], ("two", 1, 1), ("two", 1), ("Alone", 1), (None, 1)]
        for value in OTHERS + others:
            self.assertIs(is_obstacle(lonely, value), False)


class GroupingsTest(unittest.TestCase):
    def test_against_all_sets_of_groups(self):
        several = 0
        for figure in figures(4, 250, kinds=(1, 3, 3, 5, 7), most=6):
            found = list(groupings(figure))
            self.assertEqual(found, groupings_by_words(figure))
            self.assertEqual(count_groupings(figure), len(found))
            several += len(found) > 3
        self.assertGreater(several, 20)
        self.assertEqual(list(groupings(figure=figure)), found)
        self.assertEqual(count_groupings(figure=figure), len(found))

    def test_no_border_that_is_not_plain(self):
        figure = Figure(Metre((1, 1)), [(0, 1), (1, 2), (2, 1)])
        self.assertEqual((list(groupings(figure)), count_groupings(figure), obstacle(figure)), ([()], 1, None))
        self.assertEqual(best_grouping(figure, Book()), (3, ()))

    def test_the_first_ones_of_very_many(self):
        found = thirds(((1, 1), (1, 1)))
        self.assertEqual(list(groupings(found)), groupings_by_words(found))
        borders = [Fraction(number, 8) for number in range(17)] + [Fraction(3 * k + 1, 24) for k in range(16)]
        figure = Figure(Metre((1, 1)), [told(time) for time in sorted(borders)])
        many = count_groupings(figure)
        self.assertEqual(many, self.halved(4))
        some = groupings(figure)
        first = [next(some) for _ in range(50)]
        self.assertEqual(first, sorted(first))
        self.assertEqual(first[0][:2], ((0, 2, 3), (2, 4, 3)))
        self.assertEqual(len(list(some)) + 50, many)

    def halved(self, depth):
        """The ways to take a cell, or the groupings of both its halves."""
        return 1 if depth == 0 else 1 + self.halved(depth - 1) ** 2

    def test_lazily(self):
        borders = [Fraction(pulse) + part for pulse in range(13) for part in (Fraction(0), Fraction(1, 6), Fraction(1, 2))]
        figure = Figure(Metre(SIXTEEN), [told(time) for time in borders] + [(16, 1)])
        # The halves of the bar, the right half in two parts of which the last has a half pulse with a group.
        self.assertEqual(count_groupings(figure), self.halved(4) * (1 + self.halved(3) * 2) + 1)
        begin = time.monotonic()
        for _ in range(50):
            some = groupings(figure)
            first = [next(some) for _ in range(5)]
            self.assertEqual(first, sorted(first))
        self.assertEqual(first[0], tuple((3 * pulse, 3 * pulse + 2, 3) for pulse in range(13)))
        self.assertLess(time.monotonic() - begin, 5)


class SignsTest(unittest.TestCase):
    def test_signs_and_writings(self):
        chance, checked = Random(5), 0
        for figure in figures(6, 120, kinds=(1, 3, 3, 5, 7), most=6):
            book = chosen_book(chance)
            for groups in list(groupings(figure))[:3]:
                found = group_writing(figure, book, groups)
                wanted = [(n, best(Metre(tree), book, x, y)) for tree, n, x, y in notes_by_words(figure, groups)]
                self.assertEqual(found, wanted)
                self.assertEqual(type(found), list)
                self.assertEqual(grouping_signs(figure, book, groups), sum(len(points) - 1 for _, points in found))
                checked += len(groups) > 0
        self.assertGreater(checked, 40)
        self.assertEqual(group_writing(groups=groups, book=book, figure=figure), found)
        self.assertEqual(grouping_signs(groups=groups, book=book, figure=figure), signs_by_words(figure, book, groups))

    def test_a_group_of_three(self):
        figure = Figure(Metre((1, 1)), [(0, 1), (1, 3), (1, 1), (2, 1)])
        groups = ((0, 2, 3),)
        self.assertEqual(group_writing(figure, Book(), groups), [
            (3, ((0, ""), (1, ""))), (3, ((1, ""), (2, ""), (3, ""))), (1, ((1, ""), (2, ""))),
        ])
        self.assertEqual(grouping_signs(figure, Book(), groups), 4)
        both = ((0, 3, 3),)
        self.assertEqual(group_writing(figure, Book(), both)[1], (3, ((0, "1"), (1, ""), (1, "1"))))

    def test_groups_in_long_cells_and_deep_ones(self):
        figure = Figure(Metre(SIXTEEN), [(0, 1), (1, 1), (16, 7), (16, 1)])
        self.assertEqual(group_writing(figure, Book(), ((0, 3, 7),))[0][1][-1], (0, "0111"))
        deep = 2 ** 28
        borders = [Fraction(0), Fraction(1, deep), Fraction(4, 3 * deep), Fraction(2, deep), Fraction(1)]
        figure = Figure(Metre(1), [told(time) for time in borders])
        self.assertEqual(group_writing(figure, Book(), ((1, 3, 3),))[1:3], [(3, ((0, ""), (1, ""))), (3, ((1, ""), (2, ""), (3, "")))])
        self.assertEqual(group_writing(figure, Book(), ((0, 4, 3),))[1][1][0], (0, "0" * 26 + "11"))

    def test_figures_that_agree_with_rhythms(self):
        chance = Random(7)
        for _ in range(40):
            metre, book = Metre(chance.choice(TREES + CUT)), chosen_book(chance)
            inner = {Fraction(chance.randrange(1, metre.pulses * 16), 16) for _ in range(chance.randrange(30))}
            times = sorted(inner | {Fraction(0), Fraction(metre.pulses)})
            figure = Figure(metre, [told(time) for time in times])
            rhythm = Rhythm(metre.pulses, [(to_point(time), "tone") for time in times[:-1]])
            many = signs(rhythm, [metre], book)
            self.assertEqual(best_grouping(figure, book), (many, ()))
            self.assertEqual(floors(figure, book)[-1], many)
            bar = written(rhythm, [metre], book)[0]
            self.assertEqual(group_writing(figure, book, ()), [(1, points) for _, points in bar])

    def test_the_whole_bar_without_a_value(self):
        for tree, many in ((CUT[0], 2), (CUT[1], 3)):
            metre = Metre(tree)
            figure = Figure(metre, [(0, 1), (metre.pulses, 1)])
            self.assertEqual(grouping_signs(figure, Book.every(), ()), many)

    def test_bad_groups(self):
        figure = Figure(Metre((1, 1)), [(0, 1), (1, 3), (1, 1), (4, 3), (2, 1)])
        good = [((0, 2, 3), (2, 4, 3)), ((0, 4, 3),)]
        self.assertEqual(list(groupings(figure)), sorted(good))
        wrong = [
            (), ((0, 2, 3),), ((2, 4, 3),), ((2, 4, 3), (0, 2, 3)), ((0, 2, 5), (2, 4, 3)), ((0, 4, 7),), ((0, 4, 1),), ((0, 4, 6),),
            ((0, 3, 3), (2, 4, 3)), ((0, 4, 3), (2, 4, 3)), ((0, 2, 3), (0, 4, 3)), ((0, 4, 3), (0, 4, 3)), [(0, 4, 3)], ([0, 4, 3],),
            ((0, 4),), ((0, 4, 3, 3),), (0, 4, 3), ((False, 4, 3),), ((0, 4, "3"),), ((0, 4, None),), ((-1, 4, 3),), ((0, 5, 3),),
            ((0, 2, 3), None), ((0, 2, 3), (2, 4, 3), (4, 4, 3)), ((0, 0, 3), (0, 4, 3)), ((0, 10 ** 60, 3),), {(0, 4, 3): 1}, "", None,
        ]
        for groups in OTHERS + wrong:
            for asked in (grouping_signs, group_writing):
                with self.assertRaises(BadGroups):
                    asked(figure, Book(), groups)
        for groups in good:
            self.assertEqual(len(group_writing(figure, Book(), groups)), 4)

    def test_groups_with_true_for_one(self):
        figure = Figure(Metre((1, 1)), [(0, 1), (1, 1), (4, 3), (2, 1)])
        self.assertEqual(grouping_signs(figure, Book(), ((1, 3, 3),)), 4)
        with self.assertRaises(BadGroups):
            grouping_signs(figure, Book(), ((True, 3, 3),))

    def test_figures_with_an_obstacle_have_no_grouping(self):
        for figure in figures(8, 80):
            found = obstacle(figure)
            if found is not None:
                for groups in [(), tuple(groups_by_words(figure))]:
                    with self.assertRaises(BadGroups):
                        grouping_signs(figure, Book(), groups)


class BestTest(unittest.TestCase):
    def test_against_all_groupings(self):
        chance, none, fewer, least = Random(9), 0, 0, 0
        for figure in figures(10, 160, kinds=(1, 3, 3, 3, 5, 7), most=6):
            book = chosen_book(chance)
            rows = groupings_by_words(figure)
            if not rows:
                with self.assertRaises(NoGrouping) as caught:
                    best_grouping(figure, book)
                self.assertEqual(caught.exception.obstacle, obstacle(figure))
                none += 1
                continue
            order = sorted((signs_by_words(figure, book, row), len(row), row) for row in rows)
            self.assertEqual(best_grouping(figure, book), (order[0][0], order[0][2]))
            self.assertEqual(grouping_signs(figure, book, order[0][2]), order[0][0])
            first = [row for row in order if row[0] == order[0][0]]
            fewer += first[-1][1] > first[0][1]
            least += len(first) > 1 and first[1][1] == first[0][1]
        self.assertGreater(min(none, fewer), 2)
        self.assertGreater(least, 0)
        self.assertEqual(best_grouping(book=book, figure=figure), (order[0][0], order[0][2]))

    def test_no_grouping(self):
        for borders, wanted in (([(1, 3), (6, 5)], ("two", 1, 2)), ([(1, 11)], ("alone", 1))):
            figure = Figure(Metre((1, 1)), [(0, 1)] + borders + [(2, 1)])
            with self.assertRaises(NoGrouping) as caught:
                best_grouping(figure, Book())
            self.assertEqual(caught.exception.obstacle, wanted)


class FloorsTest(unittest.TestCase):
    def test_floors(self):
        chance, none = Random(11), 0
        for figure in figures(12, 120, most=7):
            book = chosen_book(chance)
            found = floors(figure, book)
            self.assertTrue(are_floors_by_words(figure, book, found))
            self.assertIs(are_floors(figure, book, found), True)
            self.assertEqual((type(found), len(found)), (list, len(figure.borders)))
            if obstacle(figure) is None:
                self.assertEqual(found[-1], best_grouping(figure, book)[0])
            else:
                none += 1
        self.assertGreater(none, 20)
        self.assertEqual(floors(book=book, figure=figure), found)
        self.assertIs(are_floors(value=found, book=book, figure=figure), True)

    def test_entries_changed(self):
        chance, kept, lost = Random(13), 0, 0
        for figure in figures(14, 16, most=6):
            book = chosen_book(chance)
            found = floors(figure, book)
            for at, entry in enumerate(found):
                for other in [None, 0, "0", True, False, (1,)] + ([] if entry is None else [entry - 1, entry + 1, entry + 10 ** 59]):
                    value = found[:at] + [other] + found[at + 1:]
                    wanted = are_floors_by_words(figure, book, value)
                    self.assertIs(are_floors(figure, book, value), wanted)
                    kept, lost = kept + wanted, lost + (not wanted)
        self.assertGreater(min(kept, lost), 25)

    def test_any_value(self):
        figure = Figure(Metre((1, 1)), [(0, 1), (1, 3), (1, 1), (2, 1)])
        found = floors(figure, Book())
        self.assertEqual(found, [0, None, 3, 4])
        wrong = [tuple(found), found[:-1], found + [9], found + [None], [0, 0, 3, 4], [0, None, None, 4], [1, None, 3, 4], dict(enumerate(found))]
        for value in OTHERS + wrong:
            self.assertIs(are_floors(figure, Book(), value), False)
        for value in ([0, None, -5, -4], [0, None, 0, 0], [0, None, 3, 3]):
            self.assertIs(are_floors(figure, Book(), value), True)

    def test_no_grouping_has_fewer_signs(self):
        chance = Random(15)
        for figure in figures(16, 40, kinds=(1, 3, 5), most=5):
            book = chosen_book(chance)
            last = floors(figure, book)[-1]
            for groups in list(groupings(figure))[:20]:
                self.assertGreaterEqual(grouping_signs(figure, book, groups), last)

    def test_an_ordinary_time(self):
        begin = time.monotonic()
        for figure in (thirds(((1, 1), (1, 1))), thirds(SIXTEEN)):
            for book in (Book(), Book.every()):
                found = floors(figure, book)
                self.assertEqual(found[-1], best_grouping(figure, book)[0])
                self.assertIs(are_floors(figure, book, found), True)
        self.assertLess(time.monotonic() - begin, 30)


if __name__ == "__main__":
    unittest.main()
