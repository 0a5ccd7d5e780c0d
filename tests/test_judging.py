"""barscribe.judging: journals and written parts."""

import unittest
from itertools import product
from random import Random

from barscribe.errors import BadBook, BadJournal, BadRow, NoPart, NothingDone
from barscribe.far import fewest
from barscribe.judging import first_wrong, is_written, journal_of, replayed
from barscribe.metres import Metre
from barscribe.moving import pieces
from barscribe.scores import Score
from barscribe.shapes import Book
from barscribe.writings import writings
from tests.deeds import bent_deed, some_deed
from tests.ledger import Ledger, Wrong
from tests.notes import chosen_book
from tests.test_rhythms import REST, TONE
from tests.values import OTHERS, SIXTEEN, TREES

TWO, THREE = (1, 1), (1, 1, 1)


def metres_of(trees):
    return [Metre(tree) for tree in trees]


def some_journal(chance, trees, many, all_words=True):
    """Deeds that can be done one after another, each with the signs behind it."""
    ledger, found = Ledger(trees), []
    for _ in range(many):
        deed = some_deed(chance, ledger)
        if all_words or deed[0] not in ("undo", "redo"):
            try:
                ledger.do(deed)
            except Wrong:
                continue
            found.append((deed, ledger.signs()))
    return found


def first_wrong_by_words(trees, journal):
    ledger = Ledger(trees)
    for index, item in enumerate(journal):
        if type(item) is not tuple or len(item) != 2 or type(item[1]) is not int:
            return index
        try:
            ledger.do(item[0])
        except Wrong:
            return index
        if ledger.signs() != item[1]:
            return index
    return None


class JournalTest(unittest.TestCase):
    def test_the_journal_of_a_score(self):
        score = Score([Metre(TWO)], Book())
        self.assertEqual(journal_of(score), [])
        score.do_all([("part", "a"), ("play", "a", (0, "1"), (1, "1"), TONE), ("bar", 0, 1), ("undo",), ("book", ((0, 1, 1),)), ("cut", "a", (1, ""))])
        score.do(("undo",))
        wanted = [(("part", "a"), 1), (("play", "a", (0, "1"), (1, "1"), TONE), 4), (("book", [(0, 1, 1)]), 3)]
        self.assertEqual(journal_of(score=score), wanted)
        journal_of(score)[2][0][1].clear()
        journal_of(score).pop()
        self.assertEqual(journal_of(score), wanted)

    def test_journals_are_right(self):
        for seed in range(10):
            chance = Random(seed)
            trees = [chance.choice(TREES[:5]) for _ in range(2)]
            score = Score(metres_of(trees), Book())
            score.do_all([deed for deed, _ in some_journal(chance, trees, 40)])
            journal = journal_of(score)
            self.assertEqual([deed for deed, _ in journal], score.log())
            self.assertIsNone(first_wrong(metres_of(trees), Book(), journal))
            self.assertIsNone(first_wrong_by_words(trees, journal))
            again = replayed(metres_of(trees), Book(), journal)
            self.assertEqual(again, score)
            self.assertEqual(journal_of(again), journal)

    def test_undo_and_redo_in_a_journal(self):
        journal = [(("part", "a"), 1), (("cut", "a", (1, "")), 2), (("undo",), 1), (("redo",), 2), (("undo",), 1), (("part", "b"), 2)]
        self.assertIsNone(first_wrong([Metre(TWO)], Book(), journal))
        self.assertEqual(first_wrong([Metre(TWO)], Book(), journal + [(("redo",), 3)]), 6)
        score = replayed([Metre(TWO)], Book(), journal[:5])
        self.assertEqual((score.log(), score.do(("redo",))), ([("part", "a")], 2))
        self.assertEqual(first_wrong([Metre(TWO)], Book(), [(("undo",), 0)]), 0)
        with self.assertRaises(NothingDone):
            replayed([Metre(TWO)], Book(), []).do(("undo",))

    def test_changed_journals(self):
        kept = lost = 0
        for seed in range(8):
            chance = Random(100 + seed)
            trees = [chance.choice(TREES[:4]) for _ in range(2)]
            metres, journal = metres_of(trees), some_journal(chance, trees, 14)
            self.assertIsNone(first_wrong(metres, Book(), journal))
            changed = [tuple(journal)]
            for at, (deed, many) in enumerate(journal):
                items = [(deed, many + 1), (deed, many - 1), (deed, True), (deed, str(many)), [deed, many], (deed,), (deed, many, many), deed]
                items += [(bent_deed(chance, deed), many) for _ in range(4)] + [chance.choice(OTHERS), (list(deed), many)]
                changed.extend(journal[:at] + [item] + journal[at + 1:] for item in items)
                changed.append(journal[:at] + journal[at + 1:])
                changed.append(journal[:at] + [journal[at]] + journal[at:])
                changed.append(journal[:at] + journal[at:at + 2][::-1] + journal[at + 2:])
            for value in changed:
                wanted = first_wrong_by_words(trees, value)
                self.assertEqual(first_wrong(metres, Book(), value), wanted)
                kept, lost = kept + (wanted is None), lost + (wanted is not None)
                if wanted is None:
                    self.assertEqual(replayed(tuple(metres), Book(), value).log(), replayed(metres, Book(), list(value)).log())
                else:
                    with self.assertRaises(BadJournal) as caught:
                        replayed(metres, Book(), value)
                    self.assertEqual(caught.exception.index, wanted)
        self.assertGreater(min(kept, lost), 20)

    def test_any_value(self):
        metres = [Metre(TWO)]
        for value in OTHERS + ["journal", {("undo",): 0}, Score(metres, Book())]:
            wanted = None if isinstance(value, (list, tuple)) and not value else 0
            self.assertEqual(first_wrong(metres, Book(), value), wanted)
            if wanted == 0:
                with self.assertRaises(BadJournal) as caught:
                    replayed(metres, Book(), value)
                self.assertEqual(caught.exception.index, 0)
        self.assertIsNone(first_wrong(journal=[(("part", "a"), 1)], book=Book(), metres=tuple(metres)))
        self.assertEqual(replayed(journal=[], book=Book(), metres=metres), Score(metres, Book()))
        for value in OTHERS:
            self.assertEqual(first_wrong(metres, Book(), [(("part", "a"), 1), value]), 1)

    def test_bars_and_books(self):
        for metres in OTHERS + [[], [Metre(1)] * 25, [Metre(SIXTEEN)] * 16, [1]]:
            for book in (Book(), None):
                for asked in (first_wrong, replayed):
                    with self.assertRaises(BadRow):
                        asked(metres, book, None)
        for book in OTHERS:
            if not isinstance(book, Book):
                for asked in (first_wrong, replayed):
                    with self.assertRaises(BadBook) as caught:
                        asked([Metre(1)], book, None)
                    self.assertEqual(caught.exception.index, 0)

    def test_the_first_book_counts(self):
        journal = [(("part", "a"), 1), (("play", "a", (0, "1"), (1, "1"), TONE), 3)]
        self.assertEqual(first_wrong([Metre(TWO)], Book(), journal), 1)
        self.assertIsNone(first_wrong([Metre(TWO)], Book([(0, 1, 1)]), journal))


class WrittenTest(unittest.TestCase):
    def some_score(self, chance):
        trees = [chance.choice(TREES[:7]) for _ in range(chance.randrange(1, 4))]
        score = Score(metres_of(trees), chosen_book(chance))
        score.do(("part", "a"))
        length = sum(metre.pulses for metre in score.bars)
        for _ in range(chance.randrange(5)):
            places = sorted(chance.sample(range(4 * length + 1), 2))
            begin, end = [(place // 4, ("", "01", "1", "11")[place % 4]) for place in places]
            score.do(("play", "a", begin, end, chance.choice([TONE, REST])))
        return score

    def rows_of(self, score):
        """For each bar, for each piece, all its pairs of an index and a writing, and the fewest signs."""
        found = []
        for metre, bar in zip(score.bars, pieces(score.rhythm("a"), score.bars)):
            found.append([
                ([(index, row) for row in writings(metre, score.book, x, y)], fewest(metre, score.book, x, y)) for index, x, y in bar
            ])
        return found

    def test_all_writings_with_the_fewest_signs(self):
        others = more = 0
        for seed in range(60):
            chance = Random(seed)
            score = self.some_score(chance)
            rows = self.rows_of(score)
            best = [[[pair for pair in pairs if len(pair[1]) == signs + 1] for pairs, signs in bar] for bar in rows]
            first = [[pairs[0] for pairs in bar] for bar in best]
            self.assertEqual(first, score.written("a"))
            self.assertIs(is_written(score, "a", first), True)
            self.assertIs(is_written(score, "a", tuple(tuple(bar) for bar in first)), True)
            for choice in list(product(*[product(*bar) for bar in best]))[:40]:
                self.assertIs(is_written(score, "a", [list(bar) for bar in choice]), True)
                others += list(map(list, choice)) != first
            for at, bar in enumerate(rows):
                for piece, (pairs, signs) in enumerate(bar):
                    for pair in pairs[:10]:
                        value = [list(row) for row in first]
                        value[at][piece] = pair
                        self.assertIs(is_written(score, "a", value), len(pair[1]) == signs + 1)
                        more += len(pair[1]) > signs + 1
        self.assertGreater(min(others, more), 20)

    def test_changed_lists(self):
        score = Score([Metre(TWO), Metre(THREE)], Book())
        score.do_all([("part", "a"), ("play", "a", (0, "1"), (3, "1"), TONE)])
        good = score.written("a")
        self.assertIs(is_written(value=good, name="a", score=score), True)
        (x, y), (z, w) = good
        wrong = [
            good[:1], good[::-1], good + [[]], good[:1] * 2, [[x], [z, w]], [[x, y, y], [z, w]], [[y, x], [z, w]], [[x, y], [w, z]],
            [[x, y, z], [w]], [[x, y], [z, w], [w]], [[], [z, w]], [[x, x], [z, w]], [[[*x], y], [z, w]], [[(*x, 1), y], [z, w]],
            [[(x[0], list(x[1])), y], [z, w]], [[(1, x[1]), y], [z, w]], [[(False, x[1]), y], [z, w]], [[x, (True, y[1])], [z, w]],
            [[x, ("1", y[1])], [z, w]], [[x, (None, y[1])], [z, w]], [[x, (1,)], [z, w]], [[(0, x[1][:1]), y], [z, w]], [[(0, ()), y], [z, w]],
            [[(0, None), y], [z, w]], [{0: x, 1: y}, [z, w]], {0: [x, y], 1: [z, w]}, [[x, y], None], [[x, y], "zw"], [x, y, z, w],
            [[(0, ((0, ""), (0, "01"), (0, "1"))), y], [z, w]], [[(0, ((0, ""), (1, ""))), y], [z, w]], [[(0, ((0, "01"), (0, "1"))), y], [z, w]],
        ]
        for value in OTHERS + wrong:
            self.assertIs(is_written(score, "a", value), False)
            if isinstance(value, list):
                self.assertIs(is_written(score, "a", tuple(value)), False)
        self.assertIs(is_written(score, "a", (good[0], tuple(good[1]))), True)
        # What was written by another book, or before a deed, is so no more.
        score.do(("cut", "a", (1, "")))
        self.assertIs(is_written(score, "a", good), False)

    def test_by_the_book_of_the_score(self):
        score = Score([Metre(TWO)], Book())
        score.do_all([("part", "a"), ("play", "a", (0, "1"), (1, "1"), TONE)])
        plain = score.written("a")
        score.do(("book", [(0, 1, 1)]))
        self.assertIs(is_written(score, "a", plain), False)
        self.assertIs(is_written(score, "a", score.written("a")), True)
        self.assertIs(is_written(score, "a", [[(0, ((0, ""), (0, "1"))), (1, ((0, "1"), (1, "1"))), (2, ((1, "1"), (2, "")))]]), True)

    def test_no_part(self):
        score = Score([Metre(TWO)], Book())
        score.do(("part", "a"))
        for name in OTHERS + ["b", "A", ["a"], ("a",)]:
            for value in (score.written("a"), None):
                with self.assertRaises(NoPart) as caught:
                    is_written(score, name, value)
                self.assertIs(caught.exception.name, name)


if __name__ == "__main__":
    unittest.main()
