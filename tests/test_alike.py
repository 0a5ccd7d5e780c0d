"""barscribe.alike: point 14 of the document."""

import unittest
from random import Random

from barscribe.alike import compare, first_pairs, is_closed, is_pair, moved_pair, verdict
from barscribe.errors import BadMetre, BadState, TooMany
from barscribe.far import fewest
from barscribe.metres import Metre
from barscribe.shapes import Book, shape
from barscribe.states import first_states, is_state, moved, moves
from tests.notes import (
    all_notes, all_sides, as_lists, chosen_book, next_sides, notes_in_order, order_of, side_of, small_book, some_note, way_of,
)
from tests.values import CUT, DEEP, EXTRA, OTHERS, SIXTEEN, TREES

# Metres with equally many pulses.
TWINS = [
    (((1, 1), (1, 1)), (1, (1, 1, 1))), (((1, 1), 1), (1, (1, 1))), (((1, 1), 1), (1, 1, 1)), (CUT[0], CUT[1]),
    (((1, 1, 1), (1, 1, 1)), ((1, 1), (1, 1), (1, 1))), ((1, (1, (1, 1))), ((1, 1), (1, 1))), ((1, 1), (1, 1)), (1, 1),
]


def depth_of(metre):
    """A depth at which all notes of a metre can be looked at."""
    return {1: 5, 2: 4, 3: 3, 4: 3}.get(metre.pulses, 2)


def signs(metre, book, depth):
    return {note: fewest(metre, book, *note) for note in all_notes(metre, depth)}


def deep_book(chance):
    return Book(chance.sample(DEEP, chance.randrange(len(DEEP) + 1)))


def questions(seed, many):
    """Metres and books of all kinds to compare."""
    chance = Random(seed)
    for _ in range(many):
        one, other = chance.choice(TWINS) if chance.random() < 0.4 else (chance.choice(TREES[:7]),) * 2
        book, few = chance.choice([chosen_book(chance), deep_book(chance)]), deep_book(chance)
        others = [Book(book.shapes[1:]), book | Book([chance.choice(EXTRA)]), book, few, book | few, chosen_book(chance)]
        yield Metre(one), book, Metre(other), chance.choice(others)


def pair_by_states(metre, book, other_metre, other_book, x, y, way):
    """The pair of a note, by the states of both books."""
    found = []
    for here, shapes in ((metre, book), (other_metre, other_book)):
        state, level = first_states(here, shapes)[x, y]
        for move in way:
            state, more = moved(shapes, state, move)
            level += more
        found.append((state, level))
    (one, level), (other, other_level) = found
    return one + (other[3], level - other_level)


class CompareTest(unittest.TestCase):
    def test_against_all_notes_with_few_bits(self):
        seen = []
        for metre, book, other_metre, other_book in questions(1, 36):
            depth = depth_of(metre)
            one, other = signs(metre, book, depth), signs(other_metre, other_book, depth)
            answer = compare(metre, book, other_metre, other_book)
            parting = [note for note in one if one[note] != other[note]]
            where = (metre.tree, book.extra, other_metre.tree, other_book.extra)
            if parting:
                self.assertEqual(answer, ("parted", *min(parting, key=order_of)), where)
            elif answer[0] == "parted":
                note = answer[1:]
                self.assertGreater(order_of(note)[0], depth)
                self.assertNotEqual(fewest(metre, book, *note), fewest(other_metre, other_book, *note))
            else:
                self.assertTrue(is_closed(metre, book, other_metre, other_book, answer[1]))
            seen.append((answer[0], bool(parting)))
        self.assertGreater(min(seen.count(("parted", True)), seen.count(("alike", False))), 5)

    def test_deep_partings_are_the_least(self):
        # Books that agree on all notes with two bits; all notes up to the depth of the answer are looked at.
        deepest = 0
        for tree in (1, (1, 1)):
            metre = Metre(tree)
            for shape in EXTRA:
                for book in (Book.every(), Book([shape])):
                    answer = compare(metre, book, metre, book - Book([shape]))
                    if answer[0] == "parted":
                        depth = order_of(answer[1:])[0]
                        deepest = max(deepest, depth)
                        if depth > 2 and depth < 5:
                            other = book - Book([shape])
                            notes = notes_in_order(metre, depth)
                            first = next(note for note in notes if fewest(metre, book, *note) != fewest(metre, other, *note))
                            self.assertEqual(answer[1:], first)
        self.assertGreater(deepest, 2)

    def test_alike_in_a_metre_means_that_deep_notes_agree(self):
        chance, many = Random(2), 0
        for metre, book, other_metre, other_book in questions(3, 120):
            if compare(metre, book, other_metre, other_book)[0] == "alike" and (metre, book) != (other_metre, other_book):
                for bits in (3, 6, 12, 60, 400):
                    note = some_note(chance, metre, bits)
                    self.assertEqual(fewest(metre, book, *note), fewest(other_metre, other_book, *note))
                many += 1
        self.assertGreater(many, 4)

    def test_pairs_are_those_that_are_reached_each_once(self):
        metre, book = Metre((1, 1)), Book([(0, 0, 2), (2, 0, 2)])
        for one, other in ((Book(), Book()), (book, book), (Book([(0, 0, 2)]), Book())):
            kind, pairs = compare(metre, one, metre, other)
            self.assertEqual(kind, "alike")
            self.assertIsInstance(pairs, list)
            self.assertEqual(len(pairs), len(set(pairs)))
            reached = set(first_pairs(metre, one, metre, other).values())
            waiting = list(reached)
            while waiting:
                pair = waiting.pop()
                for move in moves(pair[:4]):
                    behind = moved_pair(one, other, pair, move)
                    if behind not in reached:
                        reached.add(behind)
                        waiting.append(behind)
            self.assertEqual(set(pairs), reached)

    def test_one_book_in_two_metres(self):
        one, other = Metre(((1, 1), (1, 1))), Metre((1, (1, 1, 1)))
        self.assertEqual(compare(one, Book(), other, Book())[0], "parted")
        # The pulse alone matters below the pulses: the parting notes of metres that differ have points without bits.
        for one, other in TWINS:
            if one != other:
                answer = compare(Metre(one), Book(), Metre(other), Book())
                self.assertEqual(answer[0], "parted")
                self.assertNotEqual(*[fewest(Metre(tree), Book(), *answer[1:]) for tree in (one, other)])

    def test_different_numbers_of_pulses(self):
        for one, other in ((1, (1, 1)), ((1, 1), 1), (SIXTEEN, ((1, 1), (1, 1))), ((1, 1), (1, 1, 1))):
            for asked in (compare, first_pairs):
                with self.assertRaises(BadMetre):
                    asked(Metre(one), Book(), Metre(other), Book())
            for thing in OTHERS:
                with self.assertRaises(BadMetre):
                    is_closed(Metre(one), Book(), Metre(other), Book(), thing)
            with self.assertRaises(BadMetre):
                compare(Metre(one), Book(), Metre(other), Book(), most=0)

    def test_too_many_behind_the_verdicts_of_a_depth(self):
        for metre, book, other_metre, other_book in questions(4, 14):
            question = (metre, book, other_metre, other_book)
            answer = compare(*question)
            counts, layer = [], set(first_pairs(*question).values())
            reached = set()
            while layer and not any(verdict(pair) for pair in layer):
                reached |= layer
                counts.append(len(reached))
                layer = {moved_pair(book, other_book, pair, move) for pair in layer for move in moves(pair[:4])} - reached
            self.assertEqual(bool(layer), answer[0] == "parted")
            # Before the depth of the answer, so many pairs must be allowed; at that depth itself none.
            enough = counts[-1] if counts else 0
            self.assertEqual(compare(*question, most=enough), answer)
            for most in {enough - 1, enough // 2, 0} if counts else ():
                if most < enough:
                    with self.assertRaises(TooMany) as caught:
                        compare(*question, most=most)
                    self.assertEqual(caught.exception.most, most)

    def test_a_parting_at_depth_two_needs_no_pairs(self):
        metre = Metre(((1, 1), (1, 1)))
        wanted = ("parted", (0, ""), (0, "11"))
        self.assertEqual(compare(metre, Book(), metre, Book([(1, -1, 1)]), most=0), wanted)
        self.assertEqual(compare(most=-1, other_book=Book([(1, -1, 1)]), other_metre=metre, book=Book(), metre=metre), wanted)

    def test_most_by_name_alone(self):
        with self.assertRaises(TypeError):
            compare(Metre(1), Book(), Metre(1), Book(), 5000)

    def test_equal_again(self):
        for question in questions(5, 10):
            first = compare(*question)
            self.assertEqual(compare(*question), first)
            metre, book, other_metre, other_book = question
            again = (Metre(metre.tree), Book(book.shapes), Metre(other_metre.tree), Book(other_book.extra))
            self.assertEqual(compare(*again), first)


class FactsTest(unittest.TestCase):
    def test_alike_in_one_pulse(self):
        # What holds in any metre holds in the metre of one pulse.
        many = 0
        chance = Random(6)
        for _ in range(60):
            tree, book = chance.choice(TREES[1:]), small_book(chance, 10)
            other = Book(book.shapes[1:]) if chance.random() < 0.5 else book | small_book(chance, 2)
            if compare(Metre(tree), book, Metre(tree), other)[0] == "alike":
                self.assertEqual(compare(Metre(1), book, Metre(1), other)[0], "alike", (tree, book.extra, other.extra))
                many += book != other
        self.assertGreater(many, 5)

    def test_shapes_that_never_occur(self):
        metre = Metre(1)
        seen = {shape(metre, *note) for note in all_notes(metre, 6)}
        never = [told for told in EXTRA if told not in seen]
        self.assertEqual(sorted(never + DEEP), EXTRA)
        chance = Random(7)
        for told in never[::2]:
            book = small_book(chance, 12) - Book([told])
            self.assertEqual(compare(metre, book, metre, book | Book([told]))[0], "alike")

    def test_alike_is_an_order_of_sameness(self):
        chance = Random(8)
        metre = Metre((1, 1))
        books = [Book([told]) for told in EXTRA[::5]] + [Book(), Book([EXTRA[0], EXTRA[5]]), small_book(chance, 3)]
        table = [[compare(metre, one, metre, other)[0] == "alike" for other in books] for one in books]
        rows = range(len(books))
        for one in rows:
            self.assertTrue(table[one][one])
            for other in rows:
                self.assertEqual(table[one][other], table[other][one])
                for third in rows:
                    self.assertTrue(table[one][third] or not (table[one][other] and table[other][third]))
        self.assertGreater(sum(map(sum, table)), len(books))


class PairsTest(unittest.TestCase):
    def test_first_pairs(self):
        for metre, book, other_metre, other_book in questions(9, 12):
            found = first_pairs(metre, book, other_metre, other_book)
            self.assertEqual(list(found), sorted(all_sides(metre)))
            one, other = first_states(metre, book), first_states(other_metre, other_book)
            for sides, pair in found.items():
                (state, level), (second, other_level) = one[sides], other[sides]
                self.assertEqual(pair, state + (second[3], level - other_level))
                self.assertTrue(is_pair(pair))

    def test_moved_pairs_and_verdicts(self):
        chance = Random(10)
        for metre, book, other_metre, other_book in questions(11, 30):
            question = (metre, book, other_metre, other_book)
            x, y = some_note(chance, metre, chance.choice([2, 3, 4, 6, 40]))
            pair = first_pairs(*question)[side_of(x), side_of(y)]
            sides, way = (side_of(x), side_of(y)), way_of(x, y)
            for at, move in enumerate(way):
                inside = "in" in (sides[0][0], sides[1][0])
                self.assertEqual(verdict(pair) is None, inside)
                pair = moved_pair(book, other_book, pair, move)
                sides = next_sides(*sides, move)
                if at < 6:
                    self.assertEqual(pair, pair_by_states(*question, side_of(x), side_of(y), way[:at + 1]))
                self.assertTrue(is_pair(pair))
            self.assertIs(type(verdict(pair)), int)
            self.assertEqual(verdict(pair), fewest(metre, book, x, y) - fewest(other_metre, other_book, x, y))

    def test_bad_states(self):
        pair = first_pairs(Metre(1), Book(), Metre(1), Book.every())[("in", 0), ("in", 0)]
        for thing in OTHERS + [list(pair), pair[:5], pair[:4], pair + (0,), pair[:5] + (True,), pair[:5] + (None,)]:
            self.assertIs(is_pair(thing), False)
            with self.assertRaises(BadState):
                moved_pair(Book(), Book(), thing, ("left", "left"))
            with self.assertRaises(BadState):
                verdict(thing)
        for move in OTHERS + [["left", "left"], ("right", "left"), ("stay", "left"), ("left",), ("middle", "middle")]:
            with self.assertRaises(BadState):
                moved_pair(Book(), Book(), pair, move)
        found = moved_pair(move=("left", "right"), pair=pair, other_book=Book(), book=Book())
        self.assertIsNone(verdict(pair=found))

    def test_is_pair_for_bent_parts(self):
        pairs = list(first_pairs(Metre((1, 1)), Book(), Metre((1, 1)), Book.every()).values())
        for pair in pairs[::7]:
            self.assertIs(is_pair(pair), True)
            for number in (0, -5, 10 ** 60):
                self.assertTrue(is_pair(pair[:5] + (number,)))
            for at in range(5):
                for thing in OTHERS:
                    bent = pair[:at] + (thing,) + pair[at + 1:]
                    wanted = is_state(bent[:4]) and is_state(bent[:3] + bent[4:5])
                    self.assertIs(is_pair(bent), wanted)
            for bent in as_lists(pair):
                self.assertFalse(is_pair(bent))
            for other in pairs[::11]:
                bent = pair[:4] + other[4:]
                self.assertEqual(is_pair(bent), is_state(pair[:3] + other[4:5]))


class ClosedTest(unittest.TestCase):
    def setUp(self):
        self.question = (Metre((1, 1)), Book([(0, 0, 2)]), Metre((1, 1)), Book([(0, 0, 2)]))
        self.pairs = compare(*self.question)[1]

    def closed(self, thing):
        return is_closed(*self.question, thing)

    def test_lists_and_tuples_in_any_order(self):
        pairs = list(self.pairs)
        for thing in (pairs, tuple(pairs), pairs[::-1], sorted(pairs, key=repr), pairs + pairs[:3], tuple(pairs * 2)):
            self.assertIs(self.closed(thing), True)
        self.assertTrue(is_closed(
            thing=pairs, metre=self.question[0], book=self.question[1], other_metre=self.question[2], other_book=self.question[3],
        ))
        self.assertEqual(pairs, self.pairs)

    def test_a_pair_left_out(self):
        for at in range(len(self.pairs)):
            self.assertIs(self.closed(self.pairs[:at] + self.pairs[at + 1:]), False)
        self.assertFalse(self.closed([]))
        self.assertFalse(self.closed(()))

    def test_a_pair_changed(self):
        chance = Random(12)
        for at in chance.sample(range(len(self.pairs)), 40):
            pair = self.pairs[at]
            others = [pair[:5] + (pair[5] + 1,), pair[:5] + (bool(pair[5]),), list(pair), pair[:5], None, self.pairs[at - 1]]
            for other in others + list(as_lists(pair))[:3]:
                self.assertIs(self.closed(self.pairs[:at] + [other] + self.pairs[at + 1:]), False)

    def test_a_pair_put_in(self):
        # A pair that no note has: the list is closed only if all behind it is there, too.
        state = (("at", 1), ("at", 2), 5, ((0,),))
        behind = [state + (((0,),), 0)]
        for _ in range(4):
            behind.append(moved_pair(Book(), Book(), behind[-1], ("stay", "stay")))
        self.assertTrue(self.closed(self.pairs + behind))
        self.assertFalse(self.closed(self.pairs + [state + (((0,),), 1)] + behind))
        strange = (("in", 1), ("in", 1), 8, ((9, 9, 9, 0),) * 3, ((0, 0, 0, 0),) * 3, 0)
        for thing in (strange, None, 0, (), "pair"):
            self.assertFalse(self.closed(self.pairs + [thing]))
        far = (("at", 0), ("in", 3), 8, ((9, 0, 9, 9),), ((9, 0, 9, 9),), 0)
        self.assertTrue(is_pair(far))
        self.assertFalse(self.closed(self.pairs + [far]))
        self.assertTrue(self.closed(self.pairs + self.behind(far)))

    def behind(self, pair):
        """A pair and all that are behind it."""
        reached, waiting = {pair}, [pair]
        while waiting:
            pair = waiting.pop()
            for move in moves(pair[:4]):
                other = moved_pair(self.question[1], self.question[3], pair, move)
                if other not in reached:
                    reached.add(other)
                    waiting.append(other)
        return list(reached)

    def test_a_pair_put_in_whose_difference_changes(self):
        # The entry that makes the first table stronger is of no use to any note, and is gone some moves later.
        self.question = (Metre((1, 1)), Book(), Metre((1, 1)), Book())
        self.pairs = compare(*self.question)[1]
        strange = (("at", 0), ("in", 3), 8, ((1, 0, 9, 9),), ((0, 0, 8, 8),))
        found = self.behind(strange + (-1,))
        self.assertEqual({pair[5] for pair in found}, {-1, 0})
        self.assertTrue(self.closed(self.pairs + found))
        self.assertFalse(self.closed(self.pairs + self.behind(strange + (0,))))

    def test_books_that_differ_have_no_closed_list(self):
        one, other = Book(), Book([(1, -1, 1)])
        metre = Metre((1, 1))
        self.assertFalse(is_closed(metre, one, metre, other, self.pairs))
        reached = set(first_pairs(metre, one, metre, other).values())
        for _ in range(4):
            reached |= {moved_pair(one, other, pair, move) for pair in reached for move in moves(pair[:4])}
        self.assertFalse(is_closed(metre, one, metre, other, list(reached)))

    def test_a_closed_list_with_a_verdict(self):
        # All that is behind is there, but one verdict is not 0.
        state = (("at", 0), ("at", 0), 8, ((0,),))
        self.assertEqual(moved(Book(), state, ("stay", "stay")), (state, 0))
        self.assertTrue(self.closed(self.pairs + [state + (((0,),), 0)]))
        self.assertFalse(self.closed(self.pairs + [state + (((0,),), 2)]))
        self.assertEqual(verdict(state + (((0,),), 2)), 2)

    def test_any_value(self):
        for thing in OTHERS + [{pair: 1 for pair in self.pairs}, "pairs", [self.pairs], (None,), [[]]]:
            self.assertIs(self.closed(thing), False)

    def test_alike_books_that_are_not_equal(self):
        metre, many = Metre(1), 0
        for told in EXTRA:
            one, other = Book(), Book([told])
            answer = compare(metre, one, metre, other)
            if answer[0] == "alike":
                self.assertTrue(is_closed(metre, one, metre, other, answer[1]))
                self.assertFalse(is_closed(metre, one, metre, other, answer[1][:-1]))
                many += 1
        self.assertGreater(many, 3)


if __name__ == "__main__":
    unittest.main()
