"""barscribe.needs: point 23 of the document, and the shapes that are used."""

import unittest
from itertools import combinations
from random import Random

from barscribe.alike import compare
from barscribe.errors import BadNote, BadPoint, TooMany
from barscribe.far import best, fewest
from barscribe.metres import Metre
from barscribe.needs import least_books, needless, used
from barscribe.shapes import PLAIN, Book, shape
from barscribe.writings import writings
from tests.notes import digits, notes_in_order, small_book, some_note
from tests.values import CUT, EXTRA, OTHERS, SIXTEEN, TREES

# Books of shapes that often stand for one another.
CLOSE = [
    Book([(0, -1, 0), (0, -1, 1), (1, -1, 1), (1, -1, 2)]), Book([(0, 0, -1), (0, 1, -1), (1, 1, -1), (1, 2, -1)]),
    Book([(0, 1, 1), (0, 2, 2), (1, 1, 2), (1, 2, 1), (1, 2, 2)]),
]


def subsets(shapes):
    return [row for many in range(len(shapes) + 1) for row in combinations(shapes, many)]


def least_by_words(metre, book):
    """All least books, by comparing with the books of all sets of shapes."""
    answers = {row: compare(metre, book, metre, Book(row)) for row in subsets(book.extra)}
    found = {}
    for row in sorted(answers):
        if answers[row][0] == "alike":
            fewer = {gone: answers[tuple(told for told in row if told != gone)] for gone in row}
            if all(answer[0] == "parted" for answer in fewer.values()):
                found[row] = {gone: answer[1:] for gone, answer in fewer.items()}
    return found


def needless_by_words(metre, book):
    return tuple(told for told in book.extra if compare(metre, book, metre, book - Book([told]))[0] == "alike")


def books(seed, many, most):
    chance = Random(seed)
    for _ in range(many):
        yield Metre(chance.choice(TREES[:6] + CUT[:1])), small_book(chance, most)


class NeedlessTest(unittest.TestCase):
    def test_against_compare(self):
        seen = set()
        for metre, book in list(books(1, 25, 8)) + [(Metre((1, 1)), book) for book in CLOSE]:
            found = needless(metre, book)
            self.assertEqual(found, needless_by_words(metre, book))
            self.assertIsInstance(found, tuple)
            seen.add((len(found) > 0, len(found) < len(book.extra)))
        self.assertEqual(len(seen | {(False, False)}), 4)

    def test_the_plain_book_has_none(self):
        for tree in (1, (1, 1), SIXTEEN):
            self.assertEqual(needless(Metre(tree), Book()), ())
            self.assertEqual(least_books(Metre(tree), Book()), {(): {}})

    def test_many_pulses_and_eight_shapes(self):
        chance = Random(2)
        metre, book = Metre(SIXTEEN), Book(chance.sample(EXTRA, 8))
        self.assertEqual(needless(book=book, metre=metre, most=5000), needless_by_words(metre, book))
        for row, notes in least_books(metre, book).items():
            self.assertEqual(compare(metre, book, metre, Book(row))[0], "alike")
            for gone, note in notes.items():
                other = Book(row) - Book([gone])
                self.assertEqual(compare(metre, book, metre, other), ("parted", *note))

    def test_too_many(self):
        for metre, book in books(3, 8, 5):
            if not book.extra:
                continue
            for most in (0, 1, 100, 183, 184, 250):
                raised = False
                for told in book.extra:
                    try:
                        compare(metre, book, metre, book - Book([told]), most=most)
                    except TooMany:
                        raised = True
                try:
                    self.assertEqual(needless(metre, book, most=most), needless_by_words(metre, book))
                    self.assertFalse(raised)
                except TooMany as error:
                    self.assertTrue(raised)
                    self.assertEqual(error.most, most)

    def test_most_by_name_alone(self):
        for asked in (needless, least_books):
            with self.assertRaises(TypeError):
                asked(Metre(1), Book(), 5000)


class LeastBooksTest(unittest.TestCase):
    def test_against_all_sets_of_shapes(self):
        for metre, book in list(books(4, 22, 5)) + [(Metre((1, 1)), book) for book in CLOSE]:
            found, wanted = least_books(metre, book), least_by_words(metre, book)
            self.assertEqual(found, wanted, (metre.tree, book.extra))
            self.assertEqual([list(found), *map(list, found.values())], [list(wanted), *map(list, wanted.values())])

    def test_shapes_that_are_needless_are_so_together(self):
        for metre, book in list(books(10, 12, 8)) + [(Metre((1, 1)), book) for book in CLOSE]:
            idle = needless(metre, book)
            self.assertEqual(compare(metre, book, metre, book - Book(idle))[0], "alike")
            self.assertEqual(list(least_books(metre, book)), [(book - Book(idle)).extra])

    def test_the_least_notes_among_all_notes(self):
        several = 0
        for metre, book in list(books(5, 14, 4)) + [(Metre((1, 1)), book) for book in CLOSE]:
            for row, notes in least_books(metre, book).items():
                for gone, note in notes.items():
                    depth = max(2, len(note[0][1]), len(note[1][1]))
                    if depth < 4:
                        other = Book(row) - Book([gone])
                        order = notes_in_order(metre, depth)
                        wanted = next(one for one in order if fewest(metre, other, *one) > fewest(metre, book, *one))
                        self.assertEqual(note, wanted)
                        several += 1
        self.assertGreater(several, 5)

    def test_least_books_write_with_as_many_signs(self):
        chance = Random(6)
        for metre, book in list(books(7, 12, 6)) + [(Metre((1, 1)), CLOSE[0])]:
            for row in least_books(metre, book):
                for bits in (2, 4, 9, 50):
                    note = some_note(chance, metre, bits)
                    self.assertEqual(fewest(metre, Book(row), *note), fewest(metre, book, *note))
                self.assertEqual(needless(metre, Book(row)), ())

    def test_too_many(self):
        metre, book = Metre((1, 1)), CLOSE[0]
        for most in (0, 100, 200):
            raised = False
            for row in subsets(book.extra):
                try:
                    compare(metre, book, metre, Book(row), most=most)
                except TooMany:
                    raised = True
            try:
                self.assertEqual(least_books(metre, book, most=most), least_books(metre, book))
            except TooMany as error:
                self.assertTrue(raised)
                self.assertEqual(error.most, most)
        with self.assertRaises(TooMany):
            least_books(metre, book, most=0)

    def test_equal_again_and_new(self):
        metre, book = Metre((1, 1)), CLOSE[0]
        first = least_books(metre, book)
        again = least_books(most=5000, book=Book(book.extra), metre=Metre((1, 1)))
        self.assertEqual(first, again)
        for notes in first.values():
            notes.clear()
        first.clear()
        self.assertEqual(least_books(metre, book), again)
        self.assertEqual(book, CLOSE[0])


class UsedTest(unittest.TestCase):
    def test_against_all_writings_with_the_fewest_signs(self):
        chance, kinds = Random(8), []
        for _ in range(400):
            metre = Metre(chance.choice(TREES[:6] + CUT[:2]))
            book = small_book(chance, chance.choice([8, 8, 40]))
            x, y = some_note(chance, metre, chance.choice([2, 3, 4]) if metre.pulses < 3 else 2)
            rows = list(writings(metre, book, x, y))
            least = min(map(len, rows))
            sets = [{shape(metre, *sign) for sign in zip(row, row[1:])} - set(PLAIN) for row in rows if len(row) == least]
            found = used(metre, book, x, y)
            self.assertEqual(found, (tuple(sorted(set.intersection(*sets))), tuple(sorted(set.union(*sets)))))
            kinds.append((bool(found[0]), found[0] == found[1]))
        self.assertGreater(kinds.count((True, False)) + kinds.count((False, False)), 10)
        self.assertGreater(kinds.count((True, True)), 20)

    def test_the_whole_bar_without_a_value(self):
        for tree in CUT:
            metre = Metre(tree)
            self.assertEqual(used(metre, Book.every(), (0, ""), (metre.pulses, "")), ((), ()))

    def test_many_digits(self):
        chance, seen = Random(9), 0
        for many in (30, 150, 200):
            metre, book = Metre(((1, 1), (1, 1))), small_book(chance, 8) | Book([(1, 1, -1)])
            x, y = (0, digits(chance, many)), (3, digits(chance, many))
            in_all, in_some = used(metre, book, x, y)
            self.assertTrue(set(in_all) <= set(in_some) <= set(book.extra))
            row = best(metre, book, x, y)
            shapes = {shape(metre, *sign) for sign in zip(row, row[1:])} - set(PLAIN)
            self.assertTrue(set(in_all) <= shapes <= set(in_some))
            for told in in_all:
                self.assertGreater(fewest(metre, book - Book([told]), x, y), fewest(metre, book, x, y))
            seen += len(in_some)
        self.assertGreater(seen, 3)
        found = used(metre=Metre(1), book=Book([(1, 1, -1)]), x=(0, "01" * 5000), y=(1, ""))
        self.assertEqual(found, (((1, 1, -1),), ((1, 1, -1),)))

    def test_errors(self):
        metre = Metre((1, 1))
        for thing in OTHERS + [(2, "1"), (0, "10")]:
            for x, y in ((thing, (1, "")), ((1, ""), thing), (thing, None)):
                with self.assertRaises(BadPoint) as caught:
                    used(metre, Book(), x, y)
                self.assertIs(caught.exception.point, thing)
        for x, y in (((1, ""), (1, "")), ((1, "1"), (1, ""))):
            with self.assertRaises(BadNote):
                used(metre, Book(), x, y)


if __name__ == "__main__":
    unittest.main()
