"""barscribe.metres: trees, pulses, nodes, points and levels."""

import unittest
from itertools import product

from barscribe.errors import BadMetre, BadPoint
from barscribe.metres import Metre, is_tree
from barscribe.shapes import Book
from tests.reference import Bar, all_trees, to_point
from tests.values import OTHERS, SIXTEEN, TREES

EIGHT = (((1, 1), (1, 1)), ((1, 1), (1, 1)))
SEVENTEEN = (EIGHT, EIGHT, 1)
FIVE_DEEP = (((((1, 1), 1), 1), (1, 1)), 1)
OF_FIVE = ((1, 1), (1, 1, 1))
OF_NINE = ((1, 1, 1), (1, 1, 1), (1, 1, 1))

NO_TREES = [
    [1, 1], (1, [1, 1]), [[1, 1], [1, 1]], (1,), ((1,), 1), (1, 1, 1, 1), (1, (1, 1, 1, 1)), (), (1, ()),
    True, (True, 1), (1, (1, True)), False, (False, 1), 0, 2, (1, 2), (0, 1), -1, (1, None), (1, "1"), "11", "1",
    (1, {}), (1, Book()), FIVE_DEEP, FIVE_DEEP[::-1], SEVENTEEN, (1, EIGHT, EIGHT), (SIXTEEN, 1), (SIXTEEN[0], (SIXTEEN[1], 1)),
    (OF_FIVE, 1), (1, OF_FIVE), (1, 1, OF_FIVE), (OF_NINE, 1), ((OF_NINE, 1), 1), (OF_FIVE, OF_FIVE),
    {1: 1}, None, [], [1], 10 ** 60, (10 ** 60, 1), Book(), Metre((1, 1)), (Metre(1), Metre(1)),
]


class TreeTest(unittest.TestCase):
    def test_ordinary_trees(self):
        for tree in TREES + [SIXTEEN, OF_FIVE, OF_NINE, ((((1, 1), 1), 1), 1)]:
            self.assertIs(is_tree(tree), True, tree)
            self.assertEqual(Metre(tree).tree, tree)

    def test_all_trees_of_few_pulses_and_nothing_else(self):
        rows = [1]
        for _ in range(2):
            rows = [1] + [row for many in (1, 2, 3, 4) for row in product(rows, repeat=many)][:4000]
        good = {tree for pulses in range(1, 13) for tree in all_trees(pulses, 2)}
        for row in rows:
            self.assertEqual(is_tree(row), row in good, row)

    def test_each_number_of_pulses_of_inner_nodes(self):
        two, three = (1, 1), (1, 1, 1)
        four, six, seven = (two, two), (three, three), (two, two, three)
        rows = {
            2: two, 3: three, 4: four, 5: (two, three), 6: six, 7: seven, 8: (four, four), 9: (three, three, three),
            10: (four, six), 11: (four, four, three), 12: (six, six), 13: (six, four, three), 14: (seven, seven),
            15: (four, four, seven),
        }
        for pulses, tree in rows.items():
            self.assertEqual(Metre(tree).pulses, pulses)
            self.assertEqual(is_tree((tree, 1)), pulses in (2, 3, 4, 6, 7, 8, 12, 14), pulses)
            self.assertEqual(is_tree((1, tree)), pulses in (2, 3, 4, 6, 7, 8, 12, 14), pulses)

    def test_each_way_to_miss_the_form(self):
        for thing in NO_TREES:
            self.assertIs(is_tree(thing), False, thing)
            with self.assertRaises(BadMetre):
                Metre(thing)

    def test_depth(self):
        # Six and seven pulses; only the depth tells them apart.
        for deep, tree in ((4, ((((1, 1), 1), 1), (1, 1))), (5, FIVE_DEEP)):
            self.assertEqual(is_tree(tree), deep == 4)
            self.assertTrue(is_tree(tree[0]))
        self.assertTrue(is_tree((1, (1, (1, (1, 1))))))
        self.assertFalse(is_tree((1, ((1, 1), (1, (1, (1, 1)))))))

    def test_most_pulses(self):
        seven, six = ((1, 1), (1, 1), (1, 1, 1)), ((1, 1, 1), (1, 1, 1))
        self.assertTrue(is_tree((EIGHT, EIGHT)) and is_tree((EIGHT, seven, 1)))
        for tree in (SEVENTEEN, (EIGHT, seven, (1, 1)), (six, six, six), (EIGHT, EIGHT, EIGHT)):
            self.assertFalse(is_tree(tree))
            self.assertTrue(all(is_tree(child) for child in tree))

    def test_values_of_other_kinds(self):
        for thing in OTHERS:
            if not (isinstance(thing, int) and not isinstance(thing, bool) and thing == 1):
                self.assertIs(is_tree(thing), False, thing)
                self.assertRaises(BadMetre, Metre, thing)

    def test_the_parameter_by_name(self):
        self.assertIs(is_tree(thing=(1, 1)), True)
        self.assertIs(is_tree(thing=[1, 1]), False)
        with self.assertRaises(BadMetre):
            Metre(tree=[1, 1])


class MetreTest(unittest.TestCase):
    def test_tree_pulses_and_depth(self):
        for tree in TREES + [SIXTEEN]:
            metre, bar = Metre(tree), Bar(tree, 0)
            self.assertEqual((metre.tree, metre.pulses, metre.depth), (tree, bar.pulses, bar.top))
        self.assertEqual((Metre(1).pulses, Metre(1).depth), (1, 0))
        self.assertEqual((Metre(SIXTEEN).pulses, Metre(SIXTEEN).depth), (16, 4))
        self.assertEqual((Metre((1, 1, 1)).pulses, Metre((1, 1, 1)).depth), (3, 1))

    def test_nodes_in_their_order(self):
        self.assertEqual(Metre(1).nodes(), [(0, 1, 0)])
        self.assertEqual(Metre((1, 1)).nodes(), [(0, 2, 0), (0, 1, 1), (1, 2, 1)])
        self.assertEqual(
            Metre(((1, 1), 1, (1, 1, 1))).nodes(),
            [(0, 6, 0), (0, 2, 1), (0, 1, 2), (1, 2, 2), (2, 3, 1), (3, 6, 1), (3, 4, 2), (4, 5, 2), (5, 6, 2)],
        )

    def test_nodes_hold_the_whole_tree(self):
        for tree in TREES + [SIXTEEN]:
            nodes = Metre(tree).nodes()
            self.assertEqual(nodes, sorted(nodes, key=lambda node: (node[0], node[2])))
            self.assertEqual(sum(1 for begin, end, _ in nodes if end - begin == 1), Metre(tree).pulses)

    def test_nodes_are_a_new_list_each_time(self):
        metre = Metre(((1, 1), (1, 1)))
        first = metre.nodes()
        self.assertIsInstance(first, list)
        first.clear()
        self.assertEqual(len(metre.nodes()), 7)
        self.assertIsNot(metre.nodes(), metre.nodes())

    def test_metres_are_equal_if_their_trees_are(self):
        for one, other in product(TREES, TREES):
            self.assertEqual(Metre(one) == Metre(other), one == other)
            self.assertEqual(Metre(one) != Metre(other), one != other)

    def test_a_metre_equals_nothing_else(self):
        for thing in OTHERS + [(1, 1), ((1, 1), (1, 1))]:
            self.assertEqual(Metre((1, 1)) == thing, False)
            self.assertEqual(thing == Metre((1, 1)), False)
        self.assertFalse(Metre(1) == 1)


class LevelTest(unittest.TestCase):
    def test_all_points_up_to_a_depth(self):
        for tree in TREES + [SIXTEEN]:
            metre, bar = Metre(tree), Bar(tree, 3)
            for time in bar.times:
                self.assertIs(metre.is_point(to_point(time)), True)
                self.assertEqual(metre.level(to_point(time)), bar.level(time), (tree, time))

    def test_both_ends_of_the_bar(self):
        for tree in TREES + [SIXTEEN]:
            metre = Metre(tree)
            self.assertEqual((metre.level((0, "")), metre.level((metre.pulses, ""))), (0, 0))

    def test_between_children_of_each_depth(self):
        metre = Metre(((((1, 1), (1, 1)), ((1, 1, 1), 1)), (1, 1)))
        self.assertEqual(metre.pulses, 10)
        levels = [metre.level((pulse, "")) for pulse in range(11)]
        self.assertEqual(levels, [0, 4, 3, 4, 2, 4, 4, 3, 1, 2, 0])
        self.assertEqual((metre.depth, metre.level((9, "1")), metre.level((0, "0001"))), (4, 5, 8))

    def test_thousands_of_bits(self):
        metre = Metre(((1, 1), (1, 1)))
        for many in (1000, 5000, 10000):
            for bits in ("1" * many, "0" * (many - 1) + "1", "01" * (many // 2)):
                self.assertTrue(metre.is_point((3, bits)))
                self.assertEqual(metre.level((3, bits)), 2 + many)
                self.assertFalse(metre.is_point((3, bits + "0")))
                self.assertFalse(metre.is_point((4, bits)))
                self.assertFalse(metre.is_point((3, bits + "2" + bits)))

    def test_what_is_no_point_of_this_bar(self):
        metre = Metre((1, 1, 1))
        wrong = [
            (0, "0"), (0, "10"), (2, "0110"), (0, "2"), (0, "1x1"), (0, " 1"), (0, "1 "), (0, "+1"), (0, "1_1"), (0, "0b1"),
            (0, "1\n1"), (0, ".1"), (3, "1"), (3, "01"), (4, ""), (10 ** 60, ""), (-1, ""), (-1, "1"), (True, ""),
            (False, ""), (True, "1"), [0, ""], [1, "1"], (0, None), (0, 1), (0, ["1"]), (0, ("1",)), ("0", ""), (None, ""),
            (0,), (0, "", ""), ((0, ""),), ((0, ""), (1, "")), (0, True), {0: ""}, "0", "", 0, None, True, [], (), (0, {}),
        ]
        for thing in wrong + OTHERS:
            self.assertIs(metre.is_point(thing), False, thing)
            with self.assertRaises(BadPoint) as caught:
                metre.level(thing)
            self.assertIs(caught.exception.point, thing)

    def test_parameters_by_name(self):
        metre = Metre(tree=(1, 1))
        self.assertEqual(metre.level(point=(1, "01")), 3)
        self.assertIs(metre.is_point(thing=(1, "01")), True)


if __name__ == "__main__":
    unittest.main()
