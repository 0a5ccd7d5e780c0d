"""barscribe.states: points 11 to 13 of the document."""

import unittest
from random import Random

from barscribe.errors import BadState, TooMany
from barscribe.far import fewest
from barscribe.metres import Metre
from barscribe.shapes import Book
from barscribe.states import first_states, is_state, moved, moves, states_of
from tests.notes import (
    all_sides, as_lists, chosen_book, ends, next_sides, possible_moves, side_of, some_note, starts, state_by_notes, way_of,
    with_each_bent,
)
from tests.values import CUT, OTHERS, SIXTEEN, TREES, some_books


def right_entry(thing, gap):
    """Whether a value of any kind can be an entry for places that are so far apart."""
    if gap < 0:
        return thing is None
    return type(thing) is int and (thing == 0 if gap == 0 else thing >= 0)


def is_state_by_words(thing):
    """The form of a state as the interface tells it; thing is a tuple of four whose sides are sides."""
    (first, nx), (second, ny), distance, table = thing
    if not (type(distance) is int and 0 <= distance <= 8 and 0 <= nx < 4 and 0 <= ny < 4):
        return False
    real = distance if distance < 8 else 8 + (ny - nx) % 4
    if (nx + real) % 4 != ny or (real == 0 and second != "in"):
        return False
    begins, finishes = starts((first, nx)), ends((second, nx + real))
    if type(table) is not tuple or len(table) != len(begins):
        return False
    if any(type(row) is not tuple or len(row) != len(finishes) for row in table):
        return False
    rows = zip(begins, table)
    if not all(right_entry(entry, end - begin) for begin, row in rows for end, entry in zip(finishes, row)):
        return False
    numbers = [entry for row in table for entry in row if entry is not None]
    return not numbers or min(numbers) == 0


class FirstStatesTest(unittest.TestCase):
    def test_against_tables_of_notes(self):
        chance = Random(1)
        for tree in [1, (1, 1), (1, 1, 1), CUT[0]]:
            metre = Metre(tree)
            for book in some_books(2, 3):
                found = first_states(metre, book)
                self.assertEqual(set(found), set(all_sides(metre)))
                self.assertEqual(list(found), sorted(found))
                for x, y in chance.sample(list(found), 40) + [(("at", 0), ("at", 4 * metre.pulses))]:
                    self.assertEqual(found[x, y], state_by_notes(metre, book, 2, x, y), (tree, book.extra, x, y))

    def test_many_pulses(self):
        chance = Random(2)
        for tree in [SIXTEEN] + CUT + TREES[5:]:
            metre, book = Metre(tree), chosen_book(chance)
            found = first_states(metre, book)
            self.assertEqual(list(found), sorted(all_sides(metre)))
            for x, y in chance.sample(list(found), 12) + [(("at", 0), ("at", 4 * metre.pulses))]:
                self.assertEqual(found[x, y], state_by_notes(metre, book, 2, x, y), (tree, book.extra, x, y))

    def test_small_ones_by_hand(self):
        found = first_states(Metre(1), Book())
        self.assertEqual(len(found), 10 + 10 + 10 + 10)
        self.assertEqual(found[("at", 1), ("at", 4)], ((("at", 1), ("at", 0), 3, ((0,),)), 2))
        self.assertEqual(found[("in", 2), ("in", 2)], ((("in", 2), ("in", 2), 0, ((None,) * 3, (None,) * 3)), 0))
        self.assertEqual(found[("at", 0), ("in", 3)], ((("at", 0), ("in", 3), 3, ((2, 1, 1, 0),)), 0))

    def test_equal_again_and_new(self):
        metre, book = Metre((1, 1)), Book([(1, -1, 1)])
        one = first_states(metre, book)
        other = first_states(book=Book([(1, -1, 1)]), metre=Metre((1, 1)))
        self.assertEqual(list(one.items()), list(other.items()))
        one.clear()
        self.assertEqual(first_states(metre, book), other)

    def test_the_far_ones_have_the_distance_eight(self):
        for (x, y), (state, _) in first_states(Metre((1, 1, 1)), Book.every()).items():
            self.assertEqual(state[:3], ((x[0], x[1] % 4), (y[0], y[1] % 4), min(8, y[1] - x[1])))


class MovedTest(unittest.TestCase):
    def test_digit_by_digit(self):
        chance = Random(3)
        for book in some_books(6, 4):
            metre = Metre(chance.choice(TREES[:7] + CUT[:2]))
            firsts = first_states(metre, book)
            for _ in range(6):
                x, y = chance.choice(list(firsts))
                state, level = firsts[x, y]
                for depth in range(3, 8):
                    self.assertEqual(moves(state), possible_moves(x, y))
                    move = chance.choice(moves(state))
                    state, more = moved(book, state, move)
                    x, y = next_sides(x, y, move)
                    level += more
                    self.assertEqual((state, level), state_by_notes(metre, book, depth, x, y), (book.extra, x, y))

    def test_all_moves_from_near_sides(self):
        metre, book = Metre((1, 1)), Book([(0, 0, -1), (1, -1, 1), (2, 1, 2), (1, 0, 0), (2, 2, -1)])
        for (x, y), (state, level) in first_states(metre, book).items():
            if x[1] in (2, 3, 4) and y[1] - x[1] < 4:
                for move in moves(state):
                    found, more = moved(book, state, move)
                    wanted = state_by_notes(metre, book, 3, *next_sides(x, y, move))
                    self.assertEqual((found, level + more), wanted)

    def test_the_sum_of_the_levels(self):
        chance = Random(5)
        for many in (3, 5, 9, 30, 300, 3000):
            for _ in range(3 if many < 1000 else 1):
                metre, book = Metre(chance.choice(TREES)), chosen_book(chance)
                x, y = some_note(chance, metre, many)
                state, level = first_states(metre, book)[side_of(x), side_of(y)]
                for move in way_of(x, y):
                    state, more = moved(book, state, move)
                    level += more
                self.assertEqual(state[3], ((0,),))
                self.assertEqual(level, fewest(metre, book, x, y), (metre.tree, book.extra, x, y))

    def test_a_thousand_digits_one_way(self):
        state, level = first_states(Metre(1), Book())[("in", 1), ("at", 4)]
        for _ in range(999):
            for word in ("left", "right"):
                state, more = moved(Book(), state, (word, "stay"))
                level += more
        state, more = moved(Book(), state, ("middle", "stay"))
        self.assertEqual(level + more, fewest(Metre(1), Book(), (0, "01" + "01" * 999 + "1"), (1, "")))

    def test_moves_ascend(self):
        all_moves = [(one, other) for one in ("left", "middle", "right") for other in ("left", "middle", "right")]
        metre = Metre(1)
        firsts = first_states(metre, Book())
        self.assertEqual(moves(firsts[("in", 0), ("in", 1)][0]), all_moves)
        self.assertEqual(moves(firsts[("in", 1), ("in", 1)][0]), [
            ("left", "left"), ("left", "middle"), ("left", "right"), ("middle", "right"), ("right", "right"),
        ])
        self.assertEqual(moves(firsts[("at", 1), ("in", 1)][0]), [("stay", "left"), ("stay", "middle"), ("stay", "right")])
        self.assertEqual(moves(firsts[("in", 1), ("at", 2)][0]), [("left", "stay"), ("middle", "stay"), ("right", "stay")])
        self.assertEqual(moves(firsts[("at", 1), ("at", 2)][0]), [("stay", "stay")])

    def test_states_that_no_note_has(self):
        # Each value of the form has states behind its moves, with levels that never fall.
        chance, book = Random(6), Book.every()
        for state in states_of(Metre((1, 1)), book)[::9]:
            rows = tuple(tuple(entry and entry + chance.randrange(5) for entry in row) for row in state[3])
            strange = state[:3] + (rows,)
            if is_state(strange):
                for move in moves(strange):
                    found, more = moved(book, strange, move)
                    self.assertTrue(is_state(found) and more >= 0)

    def test_bad_states_and_moves(self):
        state, _ = first_states(Metre(1), Book())[("in", 1), ("in", 1)]
        for thing in OTHERS + [list(state), state[:3], state + (0,)]:
            with self.assertRaises(BadState):
                moves(thing)
            with self.assertRaises(BadState):
                moved(Book(), thing, ("left", "left"))
        impossible = [("stay", "left"), ("left", "stay"), ("right", "left"), ("middle", "middle"), ("middle", "left")]
        near = [["left", "left"], ("left",), ("left", "left", "left"), ("Left", "left"), ("up", "down"), ("left", None)]
        for move in OTHERS + impossible + near:
            with self.assertRaises(BadState):
                moved(Book(), state, move)
        for move in [("left", "left"), ("middle", "right")]:
            self.assertTrue(is_state(moved(move=move, state=state, book=Book())[0]))
        self.assertEqual(moves(state=state), moves(state))


class IsStateTest(unittest.TestCase):
    def setUp(self):
        chance = Random(7)
        found = states_of(Metre((1, 1)), Book.every()) + states_of(Metre(CUT[0]), Book([(1, -1, 1), (0, 0, 2)]))
        self.states = found
        self.few = chance.sample(found, 40) + [found[0], found[-1]]

    def test_states(self):
        for state in self.states:
            self.assertIs(is_state(state), True)
            self.assertTrue(is_state_by_words(state))

    def test_any_value(self):
        for thing in OTHERS:
            self.assertIs(is_state(thing), False)
            for state in self.few[:5]:
                for at in (0, 1, 3):
                    self.assertIs(is_state(state[:at] + (thing,) + state[at + 1:]), False)
                bent = state[:2] + (thing, state[3])
                self.assertIs(is_state(bent), is_state_by_words(bent))

    def test_other_words_and_numbers(self):
        for (x, y, distance, table) in self.few:
            for word in ("At", "on", "", "stay", None, 0, True, ["at"], ("at",), "in " if x[0] == "in" else "at "):
                self.assertFalse(is_state(((word, x[1]), y, distance, table)))
                self.assertFalse(is_state((x, (word, y[1]), distance, table)))
            for number in (-1, 4, 5, 8, x[1] + 4, y[1] + 4, x[1] - 4, 10 ** 60, None, "0", True, False, (0,)):
                self.assertFalse(is_state(((x[0], number), y, distance, table)))
                self.assertFalse(is_state((x, (y[0], number), distance, table)))
            for number in (-1, 9, distance + 1, distance - 1, distance + 4, 12, 10 ** 60, None, "0", True, False, (0,)):
                bent = (x, y, number, table)
                self.assertEqual(is_state(bent), is_state_by_words(bent))

    def test_parts_bent(self):
        others = [None, 0, 1, 2, 7, -1, True, False, "0", (), (0,), ((0,),)]
        kept = 0
        for state in self.few:
            for bent in with_each_bent(state[3], others):
                thing = state[:3] + (bent,)
                self.assertEqual(is_state(thing), is_state_by_words(thing), thing)
                kept += is_state(thing)
        self.assertGreater(kept, 30)

    def test_lists_for_tuples(self):
        for state in self.few:
            for bent in as_lists(state):
                self.assertFalse(is_state(bent))

    def test_tables_of_another_size(self):
        for state in self.few:
            table = state[3]
            sizes = [table[1:], table + table[:1], (), tuple(row[1:] for row in table), tuple(row + row[:1] for row in table)]
            for other in sizes + [tuple(zip(*table)) if len(table) != len(table[0]) else ()]:
                self.assertFalse(is_state(state[:3] + (other,)))

    def test_none_of_them_zero(self):
        for state in self.few:
            raised = tuple(tuple(entry if entry is None else entry + 1 for entry in row) for row in state[3])
            same = raised == state[3]
            self.assertEqual(is_state(state[:3] + (raised,)), same)
        self.assertTrue(is_state((("at", 0), ("at", 1), 1, ((0,),))))
        self.assertFalse(is_state((("at", 0), ("at", 1), 1, ((1,),))))
        self.assertFalse(is_state((("at", 0), ("at", 1), 1, ((False,),))))
        self.assertFalse(is_state((("at", 1), ("at", 1), 0, ((0,),))))
        self.assertFalse(is_state((("in", 1), ("at", 1), 0, ((None,),))))
        self.assertTrue(is_state((("at", 1), ("at", 3), 8, ((0,),))))
        self.assertFalse(is_state((("at", 1), ("at", 3), 3, ((0,),))))


class StatesOfTest(unittest.TestCase):
    def test_closed_under_moves_and_each_once(self):
        chance = Random(8)
        for tree in [1, (1, 1), CUT[0], SIXTEEN]:
            metre, book = Metre(tree), chosen_book(chance)
            found = states_of(metre, book)
            self.assertIsInstance(found, list)
            self.assertEqual(len(found), len(set(found)))
            reached = {state for state, _ in first_states(metre, book).values()}
            waiting = list(reached)
            while waiting:
                state = waiting.pop()
                for move in moves(state):
                    behind, _ = moved(book, state, move)
                    if behind not in reached:
                        reached.add(behind)
                        waiting.append(behind)
            self.assertEqual(set(found), reached)

    def test_too_many_exactly_if_there_are_more(self):
        for tree, book in ((1, Book()), ((1, 1), Book.every()), (SIXTEEN, Book([(0, 1, 1)]))):
            metre = Metre(tree)
            found = states_of(metre, book)
            many = len(found)
            self.assertEqual(states_of(metre, book, most=many), found)
            self.assertEqual(states_of(most=many + 1, book=book, metre=metre), found)
            for most in (many - 1, many // 2, 1, 0):
                with self.assertRaises(TooMany) as caught:
                    states_of(metre, book, most=most)
                self.assertEqual(caught.exception.most, most)

    def test_most_by_name_alone(self):
        with self.assertRaises(TypeError):
            states_of(Metre(1), Book(), 2000)

    def test_finitely_many_for_each_book(self):
        for book in some_books(8, 9):
            self.assertLess(len(states_of(Metre(1), book)), 2000)


if __name__ == "__main__":
    unittest.main()
