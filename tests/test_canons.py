"""barscribe.canons: points 63 and 64 of the document."""

import unittest
from itertools import combinations
from random import Random

from barscribe.canons import are_clear, are_full, exact_entries, fewest_entries, is_refutation, most_entries
from barscribe.errors import BadNumber, BadWheel, BadWord
from barscribe.metres import Metre
from tests.values import OTHERS

WRONG_WHEELS = [
    [4, (0,)], (4, [0]), (4, ()), (4,), (4, (0,), 1), (1, (0,)), (0, (0,)), (-4, (0,)), (17, (0,)), (10 ** 60, (0,)), (True, (0,)),
    ("4", (0,)), (None, (0,)), (4, (4,)), (4, (-1,)), (4, (0, 0)), (4, (1, 0)), (4, (0, 4)), (4, (True,)), (4, (0, True)),
    (4, ("0",)), (4, (None,)), (4, ((0,),)), (4, 0), (4, "0"), (4, {0: 0}), ((4, (0,)),),
]

WORDS = ("clear", "full", "exact")


def filled(wheel, entry):
    steps, onsets = wheel
    return {(entry + onset) % steps for onset in onsets}


def all_entries(steps):
    """All entries, the shortest ones first, and each length ascending."""
    for many in range(steps):
        for rest in combinations(range(1, steps), many):
            yield (0, *rest)


def is_clear(wheel, entries):
    return len(set().union(*[filled(wheel, entry) for entry in entries])) == len(entries) * len(wheel[1])


def is_full(wheel, entries):
    return len(set().union(*[filled(wheel, entry) for entry in entries])) == wheel[0]


def refutes(wheel, word, number, thing, chosen=(0,), closed=frozenset()):
    """Point 64, word by word, for a thing that has the form of a tree."""
    steps, onsets = wheel
    taken = set().union(*[filled(wheel, entry) for entry in chosen])
    free = {step for step in range(steps) if step not in taken and step not in closed}
    left = number - len(chosen)
    if word == "clear":
        if thing is None:
            return left > 0 and len(free) < len(onsets) * left
        step, below, cases = thing
        if left <= 0 or step not in free or not refutes(wheel, word, number, below, chosen, closed | {step}):
            return False
    elif word == "full":
        if thing is None:
            return left >= 0 and len(free) > len(onsets) * left
        step, cases = thing
        if left <= 0 or step not in free:
            return False
    else:
        if thing is None:
            return False
        step, cases = thing
        if step not in free:
            return False
    fit = [entry for entry in range(steps) if step in filled(wheel, entry) and (word == "full" or filled(wheel, entry) <= free)]
    if sorted(cases) != fit:
        return False
    return all(refutes(wheel, word, number, below, (*chosen, entry), closed) for entry, below in cases.items())


def made(chance, wheel, word, number, chosen=(0,), closed=frozenset()):
    """Some refutation, with steps in any order, or None if there is none or its parts are needless."""
    steps, onsets = wheel
    taken = set().union(*[filled(wheel, entry) for entry in chosen])
    free = [step for step in range(steps) if step not in taken and step not in closed]
    left = number - len(chosen)
    if word == "clear" and len(free) < len(onsets) * left and (not free or chance.random() < 0.8):
        return None
    if word == "full" and len(free) > len(onsets) * left and (left == 0 or chance.random() < 0.8):
        return None
    step = chance.choice(free)
    entries = [entry for entry in range(steps) if step in filled(wheel, entry)]
    if word != "full":
        entries = [entry for entry in entries if filled(wheel, entry) <= set(free)]
    chance.shuffle(entries)
    cases = {entry: made(chance, wheel, word, number, (*chosen, entry), closed) for entry in entries}
    if word == "clear":
        return (step, made(chance, wheel, word, number, chosen, closed | {step}), cases)
    return (step, cases)


def bent(thing, steps):
    """A tree with one step, entry, leaf or part changed, left out or put in, at each place, in all ways."""
    yield None if thing is not None else (0, {})
    yield [thing]
    if not isinstance(thing, tuple):
        yield from (False, 0, {}, (), (0, None, {}), (None, {}))
        return
    yield list(thing)
    yield thing[:-1]
    yield (*thing, None)
    step, cases = thing[0], thing[-1]
    for other in (*range(-1, steps + 1), True, None, str(step), (step,)):
        if type(other) is not int or other != step:
            yield (other, *thing[1:])
    for key in cases:
        rest = {entry: below for entry, below in cases.items() if entry != key}
        yield (*thing[:-1], rest)
        for other in ((key + 1) % steps, bool(key), str(key), (key,), None):
            if other not in rest and (type(other) is not int or other != key):
                yield (*thing[:-1], {**rest, other: cases[key]})
        for below in bent(cases[key], steps):
            yield (*thing[:-1], {**rest, key: below})
    for key in range(-1, steps):
        if key not in cases:
            yield (*thing[:-1], {**cases, key: None})
    yield (*thing[:-1], list(cases.items()))
    yield (*thing[:-1], None)
    if len(thing) == 3:
        for below in bent(thing[1], steps):
            yield (step, below, cases)


def has_form(word, thing):
    """Whether a thing has the form of a tree, so that refutes can judge it."""
    if thing is None:
        return True
    if not isinstance(thing, tuple) or len(thing) != (3 if word == "clear" else 2) or type(thing[0]) is not int:
        return False
    if not isinstance(thing[-1], dict) or not all(type(key) is int for key in thing[-1]):
        return False
    parts = list(thing[-1].values()) + list(thing[1:-1])
    return all(has_form(word, part) for part in parts)


def small_wheels(most):
    for steps in range(2, most + 1):
        for many in range(1, steps + 1):
            for onsets in combinations(range(steps), many):
                yield (steps, onsets)


class EntriesTest(unittest.TestCase):
    def test_against_all_entries(self):
        for wheel in small_wheels(7):
            entries = list(all_entries(wheel[0]))
            clear = [row for row in entries if is_clear(wheel, row)]
            full = [row for row in entries if is_full(wheel, row)]
            most = max(len(row) for row in clear)
            fewest = min(len(row) for row in full)
            found, tree = most_entries(wheel)
            self.assertEqual(found, min(row for row in clear if len(row) == most))
            self.assertTrue(refutes(wheel, "clear", most + 1, tree))
            found, tree = fewest_entries(wheel)
            self.assertEqual(found, min(row for row in full if len(row) == fewest))
            self.assertTrue(tree is None if fewest == 1 else refutes(wheel, "full", fewest - 1, tree))
            found, tree = exact_entries(wheel)
            self.assertEqual(found, sorted(row for row in full if is_clear(wheel, row)))
            self.assertTrue(tree is None if found else refutes(wheel, "exact", 0, tree))
            for row in entries:
                self.assertIs(are_clear(wheel, row), row in clear)
                self.assertIs(are_full(wheel, row), row in full)

    def test_larger_wheels(self):
        chance = Random(1)
        for _ in range(12):
            steps = chance.randrange(8, 13)
            wheel = (steps, tuple(sorted(chance.sample(range(steps), chance.choice([1, 2, 2, 3, 3, 4, 5])))))
            entries = list(all_entries(steps))
            clear = [row for row in entries if is_clear(wheel, row)]
            full = [row for row in entries if is_full(wheel, row)]
            self.assertEqual(most_entries(wheel)[0], min(row for row in clear if len(row) == len(clear[-1])))
            self.assertEqual(fewest_entries(wheel)[0], full[0])
            self.assertEqual(exact_entries(wheel)[0], sorted(row for row in full if row in set(clear)))

    def test_sixteen_steps(self):
        chance = Random(2)
        wheels = [(16, (0,)), (16, (0, 8)), (16, (0, 4)), (16, tuple(range(16))), (15, (0, 5)), (16, (0, 2, 6)), (16, (1, 5, 7, 15))]
        wheels += [(16, tuple(sorted(chance.sample(range(16), chance.randrange(1, 9))))) for _ in range(40)]
        for wheel in wheels:
            clear, tree = most_entries(wheel)
            self.assertTrue(is_clear(wheel, clear) and is_refutation(wheel, "clear", len(clear) + 1, tree))
            self.assertTrue(refutes(wheel, "clear", len(clear) + 1, tree))
            full, tree = fewest_entries(wheel)
            self.assertTrue(is_full(wheel, full))
            if len(full) > 1:
                self.assertTrue(is_refutation(wheel, "full", len(full) - 1, tree) and refutes(wheel, "full", len(full) - 1, tree))
            exact, tree = exact_entries(wheel)
            self.assertTrue(all(is_clear(wheel, row) and is_full(wheel, row) for row in exact) and exact == sorted(set(exact)))
            self.assertTrue(tree is None if exact else refutes(wheel, "exact", 0, tree))
        self.assertEqual(most_entries((16, (0,))), (tuple(range(16)), None))
        self.assertEqual(fewest_entries((16, tuple(range(16)))), ((0,), None))
        self.assertEqual(len(exact_entries((16, (0, 8)))[0]), 128)

    def test_names_of_parameters_and_equal_answers(self):
        wheel = (8, (0, 1, 3))
        for asked in (most_entries, fewest_entries, exact_entries):
            first = asked(wheel)
            self.assertEqual(asked(wheel=wheel), first)
            if isinstance(first[1], tuple) and first[1][-1]:
                first[1][-1].clear()
                self.assertNotEqual(asked(wheel), first)
                changed = True
        self.assertTrue(changed)
        found = exact_entries((4, (0,)))[0]
        found.append(None)
        self.assertEqual(exact_entries((4, (0,)))[0], [(0, 1, 2, 3)])
        self.assertIs(are_clear(value=(0,), wheel=wheel), True)
        self.assertIs(are_full(value=(0,), wheel=wheel), False)

    def test_any_value_as_entries(self):
        wheel = (5, (0, 1))
        self.assertTrue(are_clear(wheel, (0, 2)) and are_full(wheel, (0, 1, 3)) and are_full(wheel, (0, 2, 3)))
        wrong = [
            [0, 2], (2,), (1, 3), (), (0, 0), (0, 2, 2), (2, 0), (0, 5), (0, -1), (0, 7), (0, True), (False, 2), (0, "2"), (0, None), ((0,),),
            (0, (2,)), {0: 0, 2: 2}, "02", [0, 1, 3], (0, 3, 1), (0, 1, 3, 5), (0, 1, 3, 10 ** 60), (False, 1, 3), (0, True, 3), (1, 2, 4),
        ]
        for value in OTHERS + wrong:
            if value != (0,) or type(value[0]) is not int:
                self.assertIs(are_clear(wheel, value), False)
                self.assertIs(are_full(wheel, value), False)
        self.assertIs(are_clear(wheel, (0,)), True)
        self.assertIs(are_full((5, (0, 1, 2, 3, 4)), (0,)), True)
        self.assertIs(are_clear((5, (0, 1, 2, 3, 4)), (0, 1)), False)


class RefutationTest(unittest.TestCase):
    WHEELS = [(2, (0, 1)), (3, (0, 1)), (4, (0, 1)), (5, (0, 2)), (5, (0, 1)), (6, (0, 2, 3)), (6, (1, 3)), (7, (0, 1, 3)), (8, (0, 3)), (8, (0, 1, 3)), (9, (0, 3)), (9, (0, 1, 4))]

    def questions(self):
        """Each wheel with the words and the numbers for which there is a refutation, and one made otherwise."""
        chance = Random(3)
        for wheel in self.WHEELS:
            most, fewest = len(most_entries(wheel)[0]), len(fewest_entries(wheel)[0])
            asked = [("clear", most + 1), ("clear", most + 2), ("clear", 17), ("full", fewest - 1), ("full", 1), ("exact", 0)]
            for word, number in asked:
                fits = number > most if word == "clear" else 0 < number < fewest if word == "full" else not exact_entries(wheel)[0]
                if fits:
                    for _ in range(2):
                        yield wheel, word, number, made(chance, wheel, word, number)

    def test_trees_made_in_other_orders(self):
        seen = dict.fromkeys(WORDS, 0)
        for wheel, word, number, tree in self.questions():
            self.assertTrue(refutes(wheel, word, number, tree))
            self.assertIs(is_refutation(wheel, word, number, tree), True)
            seen[word] += tree is not None
        self.assertGreater(min(seen.values()), 5)
        self.assertIs(is_refutation(value=tree, number=number, word=word, wheel=wheel), True)

    def test_each_thing_changed(self):
        kept = lost = 0
        for wheel, word, number, tree in self.questions():
            for at, other in enumerate(bent(tree, wheel[0])):
                if at > 3000:
                    break
                wanted = has_form(word, other) and refutes(wheel, word, number, other)
                self.assertIs(is_refutation(wheel, word, number, other), wanted)
                kept, lost = kept + wanted, lost + (not wanted)
        self.assertGreater(kept, 20)
        self.assertGreater(lost, 3000)

    def test_no_tree_for_what_is_not_so(self):
        """Trees of all kinds are asked for all words and numbers; none is accepted where there are such entries."""
        for wheel, _, _, tree in self.questions():
            most, fewest = len(most_entries(wheel)[0]), len(fewest_entries(wheel)[0])
            exact = exact_entries(wheel)[0]
            for word in WORDS:
                for number in range(1, 18) if word != "exact" else [0]:
                    for thing in (tree, None, (0, {}), (1, None, {}), (1, {1: None})):
                        wanted = has_form(word, thing) and refutes(wheel, word, number, thing)
                        found = is_refutation(wheel, word, number, thing)
                        self.assertIs(found, wanted)
                        if found:
                            self.assertTrue(number > most if word == "clear" else number < fewest if word == "full" else not exact)

    def test_leaves(self):
        self.assertIs(is_refutation((5, (0, 1)), "clear", 3, None), True)
        self.assertIs(is_refutation((5, (0, 1)), "clear", 2, None), False)
        self.assertIs(is_refutation((5, (0, 1)), "clear", 1, None), False)
        self.assertIs(is_refutation((2, (0, 1)), "clear", 1, None), False)
        self.assertIs(is_refutation((2, (0, 1)), "clear", 2, None), True)
        self.assertIs(is_refutation((5, (0, 1)), "full", 2, None), True)
        self.assertIs(is_refutation((5, (0, 1)), "full", 3, None), False)
        self.assertIs(is_refutation((2, (0, 1)), "full", 1, None), False)
        self.assertIs(is_refutation((3, (0, 1)), "exact", 0, None), False)
        self.assertIs(is_refutation((3, (0, 1)), "exact", 0, (2, {})), True)
        # Where no entry may be chosen any more there is no pair, only a leaf.
        self.assertIs(is_refutation((3, (0, 1)), "full", 1, (2, {1: None, 2: None})), False)
        self.assertIs(is_refutation((3, (0, 1)), "full", 1, None), True)
        # A refutation need not end where it could.
        self.assertIs(is_refutation((5, (0, 1)), "clear", 3, (2, None, {2: None})), True)
        self.assertIs(is_refutation((5, (0, 1)), "clear", 3, (2, None, {1: None, 2: None})), False)

    def test_any_value(self):
        for thing in OTHERS:
            for word, number in (("clear", 2), ("full", 3), ("exact", 0)):
                self.assertIs(is_refutation((5, (0, 1)), word, number, thing), False)
            self.assertIs(is_refutation((5, (0, 1)), "clear", 3, thing), thing is None)

    def test_trees_nested_deeply(self):
        wheel = (16, (0, 1))
        deep, wide, plain = None, None, None
        for _ in range(20000):
            deep, wide, plain = (5, deep, {}), (5, wide, {4: None, 5: None}), (5, {4: plain})
        for number in range(1, 18):
            self.assertIs(is_refutation(wheel, "clear", number, deep), False)
            self.assertIs(is_refutation(wheel, "clear", number, wide), False)
            self.assertIs(is_refutation(wheel, "full", number, plain), False)
        self.assertIs(is_refutation(wheel, "exact", 0, plain), False)
        chain = None
        for step in range(15, 1, -1):
            chain = (step, chain, {})
        # Each step is closed in turn, and no entry fits once it is.
        self.assertIs(is_refutation((16, (0, 1)), "clear", 9, chain), False)
        wheel = (13, (0, 1, 3, 9))
        steps = [step for step in range(13) if step not in wheel[1]]
        chain = None
        for step in steps[::-1]:
            chain = (step, chain, {})
        self.assertIs(is_refutation(wheel, "clear", 2, chain), True)


class ErrorsTest(unittest.TestCase):
    def test_wheels(self):
        for thing in OTHERS + WRONG_WHEELS:
            for asked in (most_entries, fewest_entries, exact_entries):
                with self.assertRaises(BadWheel):
                    asked(thing)
            for value in ((0,), None):
                with self.assertRaises(BadWheel):
                    are_clear(thing, value)
                with self.assertRaises(BadWheel):
                    are_full(thing, value)
                for word, number in (("clear", 1), ("exact", 0), (None, None)):
                    with self.assertRaises(BadWheel):
                        is_refutation(thing, word, number, value)
        for wheel in ((2, (0,)), (2, (1,)), (16, tuple(range(16))), (16, (15,))):
            self.assertEqual(most_entries(wheel)[0][0], 0)

    def test_words_ahead_of_numbers(self):
        for word in OTHERS + ["Clear", "clear ", "empty", "", ("clear",), ["clear"]]:
            for number in (1, 0, None):
                with self.assertRaises(BadWord):
                    is_refutation((5, (0, 1)), word, number, None)

    def test_numbers(self):
        others = [-1, 18, 10 ** 60, True, False, None, "1", (1,), [1], {}, Metre(1)]
        for word in ("clear", "full"):
            for number in others + [0]:
                with self.assertRaises(BadNumber):
                    is_refutation((5, (0, 1)), word, number, None)
            for number in range(1, 18):
                self.assertIn(is_refutation((5, (0, 1)), word, number, None), (True, False))
        for number in others + list(range(1, 18)):
            with self.assertRaises(BadNumber):
                is_refutation((5, (0, 1)), "exact", number, (2, {}))


if __name__ == "__main__":
    unittest.main()
