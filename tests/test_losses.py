"""barscribe.losses: points 20 to 22 of the document."""

import unittest
from random import Random

from barscribe.alike import compare, first_pairs, moved_pair
from barscribe.errors import BadCount, BadFamily, BadMetre, BadNote, BadPoint, TooMany
from barscribe.far import fewest
from barscribe.losses import greatest_loss, is_bound, is_rising, loss, note_of
from barscribe.metres import Metre
from barscribe.shapes import Book
from barscribe.states import is_state, moves
from tests.notes import (
    all_notes, all_sides, as_lists, can_stand, chosen_book, digits, next_sides, possible_moves, some_note, with_each_bent,
)
from tests.test_alike import depth_of, questions
from tests.values import EXTRA, OTHERS, TREES


def bare_behind(book, other_book, bare, move):
    """The bare pair behind a move, and the weight."""
    pair = moved_pair(book, other_book, bare + (0,), move)
    return pair[:5], pair[5]


def reached_from(metre, book, other_metre, other_book, more=()):
    """All bare pairs that are reached from those of depth 2 and some more."""
    found = {pair[:5] for pair in first_pairs(metre, book, other_metre, other_book).values()} | set(more)
    waiting = list(found)
    while waiting:
        bare = waiting.pop()
        for move in moves(bare[:4]):
            behind, _ = bare_behind(book, other_book, bare, move)
            if behind not in found:
                found.add(behind)
                waiting.append(behind)
    return found


def is_bound_by_words(metre, book, other_metre, other_book, number, potentials):
    """Point 22, word by word."""
    for pair in first_pairs(metre, book, other_metre, other_book).values():
        if pair[:5] not in potentials or potentials[pair[:5]] < pair[5]:
            return False
    for bare, value in potentials.items():
        if bare[0][0] == bare[1][0] == "at" and value + bare[3][0][0] - bare[4][0][0] > number:
            return False
        for move in moves(bare[:4]):
            behind, weight = bare_behind(book, other_book, bare, move)
            if behind not in potentials or potentials[behind] < value + weight:
                return False
    return True


def ring_of(metre, book, other_metre, other_book, family):
    """The bare pairs before and behind the ring of a family, and the sum of the weights."""
    sides, lead, ring, _ = family
    bare = first_pairs(metre, book, other_metre, other_book)[sides][:5]
    for move in lead:
        bare, _ = bare_behind(book, other_book, bare, move)
    end, total = bare, 0
    for move in ring:
        end, weight = bare_behind(book, other_book, end, move)
        total += weight
    return bare, end, total


def rising_questions(seed, many):
    """Questions whose answer is a family."""
    chance = Random(seed)
    while many:
        tree = chance.choice(TREES[:7])
        question = (Metre(tree), chosen_book(chance, 6), Metre(tree), chance.choice([Book.every(), chosen_book(chance)]))
        answer = greatest_loss(*question)
        if answer[0] == "rising":
            many -= 1
            yield question, answer[1]


class LossTest(unittest.TestCase):
    def test_the_difference(self):
        chance = Random(1)
        for metre, book, other_metre, other_book in questions(2, 40):
            x, y = some_note(chance, metre, chance.choice([2, 4, 9, 100]))
            wanted = fewest(metre, book, x, y) - fewest(other_metre, other_book, x, y)
            self.assertEqual(loss(metre, book, other_metre, other_book, x, y), wanted)
            self.assertEqual(loss(other_metre, other_book, metre, book, x, y), -wanted)
        bits = digits(chance, 3000)
        note = {"x": (0, bits), "y": (1, "")}
        found = loss(metre=Metre(1), book=Book(), other_metre=Metre(1), other_book=Book.every(), **note)
        self.assertEqual(found, fewest(Metre(1), Book(), **note) - fewest(Metre(1), Book.every(), **note))

    def test_errors_in_their_order(self):
        one, other = Metre((1, 1)), Metre((1, 1, 1))
        for x, y in ((None, None), ((0, ""), (0, "")), ((0, ""), (1, ""))):
            with self.assertRaises(BadMetre):
                loss(one, Book(), other, Book(), x, y)
        for thing in OTHERS + [(2, "1"), (3, ""), (0, "10")]:
            for x, y in ((thing, (1, "")), ((1, ""), thing), (thing, None)):
                with self.assertRaises(BadPoint) as caught:
                    loss(one, Book(), one, Book(), x, y)
                self.assertIs(caught.exception.point, thing)
        for x, y in (((1, ""), (1, "")), ((1, "1"), (1, ""))):
            with self.assertRaises(BadNote):
                loss(one, Book(), one, Book(), x, y)

    def test_different_numbers_of_pulses(self):
        one, other = (Metre((1, 1)), Book()), (Metre((1, 1, 1)), Book())
        with self.assertRaises(BadMetre):
            greatest_loss(*one, *other)
        with self.assertRaises(BadMetre):
            greatest_loss(*one, *other, most=0)
        for thing in OTHERS:
            with self.assertRaises(BadMetre):
                is_bound(*one, *other, thing, thing)
            with self.assertRaises(BadMetre):
                is_rising(*one, *other, thing)


class GreatestTest(unittest.TestCase):
    def test_against_all_notes_with_few_bits(self):
        greatest = []
        for question in questions(3, 24):
            metre, book, other_metre, other_book = question
            depth = min(depth_of(metre), 4)
            answer = greatest_loss(*question)
            losses = [loss(*question, *note) for note in all_notes(metre, depth)]
            if answer[0] == "rising":
                self.assertEqual(len(answer), 2)
                self.assertTrue(is_rising(*question, answer[1]))
                continue
            kind, number, x, y, potentials = answer
            self.assertEqual((kind, loss(*question, x, y)), ("greatest", number))
            self.assertGreaterEqual(number, max(losses))
            self.assertIs(is_bound(*question, number, potentials), True)
            self.assertIs(is_bound(*question, number - 1, potentials), False)
            self.assertIs(is_bound(*question, number + 1, potentials), True)
            self.assertTrue(is_bound_by_words(*question, number, potentials))
            greatest.append((number, number == max(losses)))
        self.assertGreater(len([number for number, _ in greatest if number > 0]), 3)
        self.assertGreater(len([same for _, same in greatest if same]), 10)

    def test_the_greatest_loss_of_deep_notes(self):
        chance = Random(4)
        for question in questions(5, 30):
            answer = greatest_loss(*question)
            if answer[0] == "greatest":
                for bits in (5, 8, 20, 200):
                    for _ in range(5):
                        self.assertLessEqual(loss(*question, *some_note(chance, question[0], bits)), answer[1])

    def test_potentials_of_just_the_bare_pairs_that_are_reached(self):
        for question in questions(6, 12):
            answer = greatest_loss(*question)
            if answer[0] == "greatest":
                potentials = answer[4]
                self.assertEqual(set(potentials), reached_from(*question))
                self.assertEqual(list(potentials), sorted(potentials))
                self.assertTrue(all(type(value) is int for value in potentials.values()))

    def test_alike_books_have_no_losses(self):
        for question in questions(7, 24):
            metre, book, other_metre, other_book = question
            both = [greatest_loss(*question), greatest_loss(other_metre, other_book, metre, book)]
            alike = compare(*question)[0] == "alike"
            self.assertEqual(alike, all(answer[:2] == ("greatest", 0) for answer in both))

    def test_more_shapes_never_lose(self):
        chance = Random(8)
        for _ in range(15):
            metre, book = Metre(chance.choice(TREES[:7])), chosen_book(chance)
            more = book | Book([chance.choice(EXTRA)])
            self.assertEqual(greatest_loss(metre, more, metre, book)[:2], ("greatest", 0))
            back = greatest_loss(metre, book, metre, more)
            self.assertTrue(back[0] == "rising" or back[1] >= 0)

    def test_equal_again_and_arguments_as_they_were(self):
        for question in questions(9, 10):
            metre, book, other_metre, other_book = question
            first = greatest_loss(*question)
            again = greatest_loss(
                other_book=Book(other_book.extra), other_metre=Metre(other_metre.tree), book=Book(book.extra),
                metre=Metre(metre.tree), most=5000,
            )
            self.assertEqual(first, again)
            if first[0] == "greatest":
                self.assertEqual(list(first[4].items()), list(again[4].items()))

    def test_too_many(self):
        for question in questions(10, 10):
            answer, many = greatest_loss(*question), len(reached_from(*question))
            self.assertEqual(greatest_loss(*question, most=many), answer)
            for most in (many - 1, many // 2, 0):
                try:
                    found = greatest_loss(*question, most=most)
                    self.assertEqual(found[0], "rising")
                    self.assertTrue(is_rising(*question, found[1]))
                except TooMany as error:
                    self.assertEqual(error.most, most)
                    self.assertTrue(answer[0] == "greatest" or most < many)
        with self.assertRaises(TypeError):
            greatest_loss(Metre(1), Book(), Metre(1), Book(), 5000)


class BoundTest(unittest.TestCase):
    def setUp(self):
        self.question = (Metre((1, 1)), Book(), Metre((1, 1)), Book([(0, 2, 2)]))
        answer = greatest_loss(*self.question)
        self.number, self.potentials = answer[1], answer[4]

    def bound(self, thing, number=None):
        return is_bound(*self.question, self.number if number is None else number, thing)

    def test_any_order_and_names(self):
        self.assertGreater(self.number, 0)
        keys = list(self.potentials)
        Random(11).shuffle(keys)
        metre, book, other_metre, other_book = self.question
        found = is_bound(
            thing={key: self.potentials[key] for key in keys}, number=self.number, other_book=other_book,
            other_metre=other_metre, book=book, metre=metre,
        )
        self.assertIs(found, True)

    def test_values_changed(self):
        kept = 0
        for key in list(self.potentials)[::6]:
            for more in (-1, 1, 2):
                thing = {**self.potentials, key: self.potentials[key] + more}
                wanted = is_bound_by_words(*self.question, self.number, thing)
                self.assertIs(self.bound(thing), wanted)
                kept += wanted
        self.assertGreater(kept, 5)
        same = {key: value + 1 for key, value in self.potentials.items()}
        self.assertEqual((self.bound(same), self.bound(same, self.number + 1)), (False, True))

    def test_keys_left_out(self):
        for key in self.potentials:
            self.assertIs(self.bound({other: value for other, value in self.potentials.items() if other != key}), False)
        self.assertIs(self.bound({}), False)

    def test_keys_put_in(self):
        far = (("at", 0), ("at", 0), 8, ((0,),), ((0,),))
        self.assertIn(far, self.potentials)
        strange = (("at", 0), ("in", 3), 8, ((9, 0, 9, 9),), ((9, 0, 5, 9),))
        self.assertIs(self.bound({**self.potentials, strange: 0}), False)
        whole = reached_from(*self.question, [strange])
        # Far below all others, so that it is nowhere in the way; then as high as the others, and higher.
        for low in (-100, 0, 50):
            thing = {**self.potentials}
            heights = {strange: low}
            waiting = [strange]
            while waiting:
                bare = waiting.pop()
                for move in moves(bare[:4]):
                    behind, weight = bare_behind(self.question[1], self.question[3], bare, move)
                    if heights.get(behind, self.potentials.get(behind, -1000)) < heights[bare] + weight:
                        heights[behind] = heights[bare] + weight
                        waiting.append(behind)
            thing.update(heights)
            self.assertTrue(set(thing) == whole or low > -100)
            self.assertIs(self.bound(thing), is_bound_by_words(*self.question, self.number, thing))
            self.assertEqual(self.bound(thing), low < 50)

    def test_values_and_keys_that_are_none(self):
        keys = list(self.potentials)
        for other in (True, None, "0", (0,), [1]):
            self.assertIs(self.bound({**self.potentials, keys[3]: other}), False)
        for other in (None, 0, (), "pair", keys[0][:4], keys[0] + (0,), (keys[0],)):
            self.assertIs(self.bound({**self.potentials, other: -100}), False)

    def test_keys_with_bools(self):
        # A key that equals one of the bare pairs, but has bools in place of numbers.
        kept = 0
        for key in list(self.potentials)[::5]:
            for bent in with_each_bent(key, [True, False]):
                if bent == key:
                    thing = {other: value for other, value in self.potentials.items() if other != key}
                    thing[bent] = self.potentials[key]
                    self.assertEqual(thing, self.potentials)
                    self.assertIs(self.bound(thing), False)
                    kept += 1
        self.assertGreater(kept, 20)

    def test_any_value(self):
        for thing in OTHERS + [list(self.potentials), list(self.potentials.items()), self.number]:
            self.assertIs(self.bound(thing), False)
            if type(thing) is not int:
                self.assertIs(self.bound(self.potentials, thing if thing is not None else "None"), False)
        self.assertIs(is_bound(*self.question, None, self.potentials), False)
        self.assertIs(is_bound(*self.question, 10 ** 60, self.potentials), True)

    def test_of_other_books(self):
        metre, one, _, other = self.question
        self.assertFalse(is_bound(metre, one, metre, Book.every(), self.number, self.potentials))
        self.assertFalse(is_bound(Metre(1), one, Metre(1), Book.every(), self.number, self.potentials))


class RisingTest(unittest.TestCase):
    def test_losses_grow_by_the_same_sum(self):
        for question, family in rising_questions(12, 10):
            self.assertIs(is_rising(*question, family), True)
            begin, end, total = ring_of(*question, family)
            self.assertEqual(begin, end)
            self.assertGreater(total, 0)
            losses = [loss(*question, *note_of(question[0], family, number)) for number in (0, 1, 2, 3, 7, 50)]
            self.assertEqual(losses, [losses[0] + number * total for number in (0, 1, 2, 3, 7, 50)])

    def test_no_family_if_there_is_a_greatest_loss(self):
        for question, family in rising_questions(13, 6):
            metre, book, other_metre, other_book = question
            back = (other_metre, other_book, metre, book)
            self.assertIs(is_rising(*back, family), False)
            self.assertIs(is_rising(metre, book, metre, book, family), False)

    def test_families_changed(self):
        chance = Random(14)
        for question, family in rising_questions(15, 4):
            sides, lead, ring, tail = family
            others = [
                (sides, lead + ring, ring, tail), (sides, lead, ring + ring, tail), (sides, lead, ring, ring + tail),
                (sides, lead, ring[1:] + ring[:1], tail), (sides, lead + ring[:1], ring[1:] + ring[:1], tail),
                (sides, lead, (), tail), (sides, lead, ring, tail[:-1]), (sides, lead, ring, tail + (("stay", "stay"),)),
                (sides, lead, tail, ()), (sides, lead[:-1], ring, tail), (sides, (), ring, tail),
            ]
            for _ in range(60):
                words = [chance.choice(["stay", "left", "middle", "right"]) for _ in "xy"]
                at = chance.randrange(1, 4)
                part = list(family[at])
                part[chance.randrange(len(part) + 1):chance.randrange(len(part) + 1)] = [tuple(words)]
                others.append(family[:at] + (tuple(part),) + family[at + 1:])
            for first in (("at", 0), ("in", 0), ("in", 3)):
                others.extend(((first, second), lead, ring, tail) for second in (("at", 3), ("in", 3), ("at", 4)))
            found = [self.rises_by_words(question, other) for other in others]
            self.assertEqual([is_rising(*question, other) for other in others], found)
            self.assertTrue(any(found) and not all(found))

    def rises_by_words(self, question, family):
        if not is_family_by_words(question[0], family):
            return False
        begin, end, total = ring_of(*question, family)
        return begin == end and total > 0

    def test_any_value(self):
        for question, family in rising_questions(16, 2):
            for thing in OTHERS + list(as_lists(family)) + [family[:3], family + ((),)]:
                self.assertIs(is_rising(*question, thing), False)
            metre, book, other_metre, other_book = question
            self.assertTrue(is_rising(
                thing=family, other_book=other_book, other_metre=other_metre, book=book, metre=metre,
            ))


def walk(sides, way):
    """The sides behind moves, or None."""
    for move in way:
        if sides is None or move not in possible_moves(*sides):
            return None
        sides = next_sides(*sides, move)
    return sides


def is_family_by_words(metre, family):
    """Point 21 with what note_of says of it, for a tuple of a pair of sides and three tuples of pairs of words."""
    sides, lead, ring, tail = family
    ends = [walk(sides, lead + tail), walk(sides, lead + ring + tail)]
    return sides in all_sides(metre) and bool(ring) and all(end and end[0][0] == end[1][0] == "at" for end in ends)


class NoteOfTest(unittest.TestCase):
    metre = Metre(((1, 1), 1))
    family = ((("in", 1), ("in", 6)), (("right", "left"),), (("left", "right"), ("right", "left")), (("middle", "middle"),))

    def test_by_hand(self):
        self.assertEqual(note_of(self.metre, self.family, 0), ((0, "0111"), (1, "1001")))
        self.assertEqual(note_of(self.metre, self.family, 1), ((0, "011011"), (1, "100101")))
        for number in (2, 77, 500):
            wanted = ((0, "011" + "01" * number + "1"), (1, "100" + "10" * number + "1"))
            self.assertEqual(note_of(number=number, family=self.family, metre=self.metre), wanted)

    def test_sides_that_are_places(self):
        stay = ("stay", "stay")
        for one, other in ((("at", 0), ("at", 12)), (("at", 2), ("at", 5)), (("at", 11), ("at", 12))):
            for parts in (((), (stay,), ()), ((stay,) * 3, (stay,), (stay,) * 2)):
                for number in (0, 1, 5):
                    found = note_of(self.metre, ((one, other), *parts), number)
                    names = ["", "01", "1", "11"]
                    self.assertEqual(found, tuple((side[1] // 4, names[side[1] % 4]) for side in (one, other)))

    def test_one_side_a_place(self):
        family = ((("at", 3), ("in", 3)), (), (("stay", "left"),), (("stay", "middle"),))
        self.assertEqual(note_of(self.metre, family, 4), ((0, "11"), (0, "11" + "0000" + "1")))
        family = ((("in", 0), ("at", 1)), (("right", "stay"),), (("right", "stay"),), (("middle", "stay"), ("stay", "stay")))
        self.assertEqual(note_of(self.metre, family, 3), ((0, "00" + "1111" + "1"), (0, "01")))

    def test_the_ring_may_lead_to_another_bare_pair(self):
        # x and y are in one cell at first, and part in the ring.
        family = ((("in", 5), ("in", 5)), (), (("left", "right"),), (("left", "right"), ("middle", "middle")))
        self.assertEqual(note_of(self.metre, family, 0), ((1, "0101"), (1, "0111")))
        self.assertEqual(note_of(self.metre, family, 3), ((1, "01" + "000" + "01"), (1, "01" + "111" + "11")))

    def test_bad_counts(self):
        for number in (501, 10 ** 60, -1, True, False, None, "1", (1,), [1], {}, Metre(1)):
            with self.assertRaises(BadCount):
                note_of(self.metre, self.family, number)

    def bad(self, family):
        for number in (0, 501, None):
            with self.assertRaises(BadFamily):
                note_of(self.metre, family, number)
        self.assertIs(is_rising(self.metre, Book(), self.metre, Book.every(), family), False)

    def test_each_way_to_miss_the_form(self):
        sides, lead, ring, tail = self.family
        for thing in OTHERS + list(as_lists(self.family)) + [self.family[:3], self.family + ((),), (self.family,)]:
            self.bad(thing)
        for thing in OTHERS:
            for at in range(4):
                # The empty tuple may stand for lead alone.
                if (at, thing) != (1, ()):
                    self.bad(self.family[:at] + (thing,) + self.family[at + 1:])
        self.assertEqual(note_of(self.metre, (sides, (), ring, tail), 0), ((0, "011"), (1, "101")))
        self.bad((sides, lead, (), tail))
        self.bad((sides, lead, ring, ()))
        self.bad((sides, lead, ring + tail, tail))
        self.bad((sides, lead, ring, tail + tail))
        self.bad((sides, lead, (("stay", "left"),), tail))
        self.bad((sides, lead, ring, (("middle", "left"),)))

    def test_sides_that_are_none(self):
        _, lead, ring, tail = self.family
        strange = [("at", -1), ("in", -1), ("in", 12), ("at", 13), ("in", 10 ** 60), ("on", 1), ("at", "1"), ("at",), ["in", 6]]
        for side in strange + [("in", True), ("in", None), (["in"], 6), ("in", 6, 6), None]:
            self.bad(((("in", 1), side), lead, ring, tail))
            self.bad(((side, ("in", 11)), lead, ring, tail))
        self.bad(((("in", 6), ("in", 1)), lead, ring, tail))
        self.bad(((("in", 6), ("at", 6)), (("right", "stay"),), (("left", "stay"),), (("middle", "stay"),)))
        self.bad(((("at", 6), ("at", 6)), (), (("stay", "stay"),), ()))
        self.bad(((("in", 1),), lead, ring, tail))
        self.bad(((("in", 1), ("in", 6), ("in", 6)), lead, ring, tail))

    def test_moves_that_are_not_possible(self):
        near = (("in", 5), ("in", 5))
        shut = (("left", "right"), ("middle", "middle"))
        note_of(self.metre, (near, (), (("left", "left"),), shut), 9)
        for move in (("right", "left"), ("middle", "left"), ("right", "middle"), ("middle", "middle"), ("stay", "left")):
            self.bad((near, (), (move,), shut))
            self.bad((near, (move,), (("left", "left"),), shut))
        self.bad((near, (), (("left", "left"),), (("middle", "middle"),)))
        # Possible behind the ring, but not if it is done no time.
        self.bad((near, (), (("left", "right"),), (("middle", "middle"),)))
        # Possible without the ring, but the ring ends where the tail is not possible.
        self.bad((near, (("left", "right"),), (("middle", "middle"),), (("middle", "middle"),)))
        self.bad((near, (), (("Left", "left"),), shut))
        self.bad((near, (), (("left", "left", "left"),), shut))
        self.bad((near, (), ("left", "left"), shut))
        self.bad((near, (), ((["left"], "left"),), shut))

    @staticmethod
    def some_move(chance, sides, *more):
        return tuple("stay" if word == "at" else chance.choice(["left", "right", *more]) for word, _ in sides)

    def test_random_families_by_words(self):
        chance, kept = Random(17), 0
        for _ in range(3000):
            sides = [(chance.choice(["at", "in"]), chance.randrange(4, 8)) for _ in "xy"]
            parts = [[self.some_move(chance, sides) for _ in range(chance.randrange(least, 3))] for least in (0, 1)]
            first = self.some_move(chance, sides, "middle")
            last = tuple("stay" if word in ("stay", "middle") else chance.choice(["middle", "left"]) for word in first)
            family = (tuple(sides), *map(tuple, parts), (first, last))
            if can_stand(*sides) and is_family_by_words(self.metre, family):
                kept += 1
                for number in (0, 1, 2, 5):
                    way = family[1] + family[2] * number + family[3]
                    (x, y), end = note_of(self.metre, family, number), walk(family[0], way)
                    depth = 2 + len(way)
                    places = [(pulse << depth) + int(bits.ljust(depth, "0"), 2) for pulse, bits in (x, y)]
                    self.assertEqual([end[0][1], end[1][1]], places)
                    self.assertTrue(self.metre.is_point(x) and self.metre.is_point(y) and x < y)
            else:
                with self.assertRaises(BadFamily):
                    note_of(self.metre, family, 1)
        self.assertGreater(kept, 20)


class FormTest(unittest.TestCase):
    def test_bare_pairs_have_the_form_of_two_states(self):
        question = (Metre((1, 1)), Book(), Metre((1, 1)), Book([(1, 2, 2)]))
        for bare in greatest_loss(*question)[4]:
            self.assertTrue(is_state(bare[:4]) and is_state(bare[:3] + bare[4:]))


if __name__ == "__main__":
    unittest.main()
