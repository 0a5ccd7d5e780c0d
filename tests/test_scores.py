"""barscribe.scores: points 65 to 67 of the document."""

import unittest
from random import Random

from barscribe import errors
from barscribe.errors import (
    BadBar, BadBook, BadDeed, BadMetre, BadMoment, BadName, BadRow, BadSound, NoPart, NothingDone, RhythmError, Taken, TooMany,
)
from barscribe.metres import Metre
from barscribe.moving import signs, written
from barscribe.rhythms import Rhythm
from barscribe.scores import Score
from barscribe.shapes import Book
from tests.deeds import bent_deed, some_deed
from tests.ledger import Ledger, Wrong
from tests.test_rhythms import REST, TONE
from tests.values import EXTRA, OTHERS, SIXTEEN, TREES

TWO, THREE, FOUR = (1, 1), (1, 1, 1), ((1, 1), (1, 1))


def score_of_trees(*trees, book=None):
    return Score([Metre(tree) for tree in trees], book or Book())


def notes_of(score, name):
    return list(score.rhythm(name).notes)


def all_answers(score):
    """All that a score answers."""
    parts = [(name, score.rhythm(name).notes, score.signs(name), score.written(name)) for name in score.names]
    return ([metre.tree for metre in score.bars], score.book.shapes, score.names, parts, score.signs(), score.log())


def same_again(score, trees, book):
    """A new score that does the deeds of the log."""
    again = Score([Metre(tree) for tree in trees], book)
    for deed in score.log():
        again.do(deed)
    return again


class ScoreCase(unittest.TestCase):
    def raises(self, error, held, work, *arguments):
        """The call raises this error, which holds this value."""
        with self.assertRaises(RhythmError) as caught:
            work(*arguments)
        self.assertIs(type(caught.exception), error)
        values = list(vars(caught.exception).values())
        self.assertEqual(values, list(held))
        if held and not isinstance(held[0], int):
            self.assertIs(values[0], held[0])

    def wrong(self, score, deed, error, *held):
        """The deed raises this error, and nothing changes."""
        before, twin = all_answers(score), score.twin()
        self.raises(error, held, score.do, deed)
        self.assertEqual(all_answers(score), before)
        self.assertEqual(score, twin)

    def agrees(self, score, ledger):
        self.assertEqual([metre.tree for metre in score.bars], ledger.trees)
        self.assertEqual((score.book, score.names), (Book(ledger.shapes), tuple(sorted(ledger.parts))))
        for name in score.names:
            self.assertEqual(score.rhythm(name), ledger.rhythm(name))
            self.assertEqual(score.signs(name), ledger.signs_of(name))
        self.assertEqual(score.signs(), sum(score.signs(name) for name in score.names))
        self.assertEqual(score.log(), ledger.log)


class NewTest(ScoreCase):
    def test_bars_book_and_names(self):
        metres, book = [Metre(TWO), Metre(THREE)], Book([(0, 1, 1)])
        for told in (metres, tuple(metres)):
            score = Score(told, book)
            self.assertEqual((score.bars, score.book, score.names), (tuple(metres), book, ()))
            self.assertIsInstance(score.bars, tuple)
        self.assertEqual(Score(book=book, metres=metres), score)
        self.assertEqual((score.signs(), score.log()), (0, []))
        metres.append(Metre(1))
        self.assertEqual(len(Score(metres[:2], book).bars), 2)
        self.assertEqual(len(score.bars), 2)

    def test_bars_of_a_score(self):
        good = Metre(TWO)
        wrong = [[], (), [good] * 25, [Metre(SIXTEEN)] * 15 + [Metre(1)], [good, 1], [good, None], good, {good.tree: 1}, "bars", [TWO]]
        for metres in OTHERS + wrong:
            for book in (Book(), None):
                self.raises(BadRow, (), Score, metres, book)
        for metres in ([good] * 24, [Metre(SIXTEEN)] * 15, [Metre(1)]):
            self.assertEqual(len(Score(metres, Book()).bars), len(metres))
        for book in OTHERS + [[], Book().shapes]:
            if not isinstance(book, Book):
                self.raises(BadBook, (0,), Score, [good], book)

    def test_asking_for_parts(self):
        score = score_of_trees(TWO, THREE)
        for name in ("viola", "a", "b"):
            score.do(("part", name))
        score.do(("play", "a", (0, "1"), (2, "1"), TONE))
        self.assertEqual(score.names, ("a", "b", "viola"))
        self.assertEqual(score.rhythm(name="a"), Rhythm(5, [((0, ""), REST), ((0, "1"), TONE), ((2, "1"), REST)]))
        self.assertEqual(score.signs(name="a"), signs(score.rhythm("a"), score.bars, Book()))
        self.assertEqual(score.signs(), score.signs("a") + score.signs("b") + score.signs("viola"))
        self.assertEqual(score.signs(name=None), score.signs())
        self.assertEqual(score.written(name="a"), written(score.rhythm("a"), score.bars, Book()))
        score.written("a")[0].clear()
        self.assertEqual(score.written("a"), written(score.rhythm("a"), score.bars, Book()))
        for name in OTHERS + ["", "c", "A", ["a"], ("a",), {"a": 1}]:
            self.raises(NoPart, (name,), score.rhythm, name)
            self.raises(NoPart, (name,), score.written, name)
            if name is not None:
                self.raises(NoPart, (name,), score.signs, name)

    def test_equality(self):
        one, other = score_of_trees(TWO), score_of_trees(TWO)
        self.assertTrue(one == other and not one != other)
        one.do(("part", "a"))
        self.assertFalse(one == other)
        other.do(("part", "a"))
        self.assertTrue(one == other)
        one.do(("cut", "a", (1, "")))
        one.do(("tie", "a", (1, "")))
        # Equal bars and parts, and another log.
        self.assertEqual(one.rhythm("a"), other.rhythm("a"))
        self.assertFalse(one == other)
        one.do(("undo",))
        one.do(("undo",))
        self.assertTrue(one == other)
        self.assertFalse(score_of_trees(TWO) == score_of_trees(TWO, book=Book([(0, 1, 1)])))
        self.assertFalse(score_of_trees(THREE) == score_of_trees((1, (1, 1))))
        for thing in OTHERS:
            self.assertFalse(one == thing)
            self.assertFalse(thing == one)
            self.assertTrue(one != thing)


class DeedTest(ScoreCase):
    def test_part_and_leave(self):
        score = score_of_trees(TWO, THREE)
        self.assertEqual(score.do(("part", "b")), 2)
        self.assertEqual(score.do(deed=("part", "a")), 4)
        self.assertEqual((score.names, notes_of(score, "a")), (("a", "b"), [((0, ""), REST)]))
        self.assertEqual(score.do(("leave", "b")), 2)
        self.assertEqual((score.names, score.log()), (("a",), [("part", "b"), ("part", "a"), ("leave", "b")]))

    def test_play(self):
        def after(*plays):
            score = score_of_trees(TWO, TWO)
            score.do(("part", "a"))
            for begin, end, sound in plays:
                found = score.do(("play", "a", begin, end, sound))
                self.assertEqual(found, score.signs())
            return notes_of(score, "a")

        def note(pulse, bits, sound):
            return ((pulse, bits), sound)

        one = ((1, ""), (2, "1"), TONE)
        self.assertEqual(after(one), [note(0, "", REST), note(1, "", TONE), note(2, "1", REST)])
        # Over several notes, from within one to within another one.
        several = [one, ((2, "1"), (3, ""), TONE)]
        self.assertEqual(after(*several), [note(0, "", REST), note(1, "", TONE), note(2, "1", TONE), note(3, "", REST)])
        self.assertEqual(
            after(*several, ((0, "1"), (2, "11"), REST)),
            [note(0, "", REST), note(0, "1", REST), note(2, "11", TONE), note(3, "", REST)],
        )
        # Within one note, which goes on behind it.
        self.assertEqual(after(one, ((1, "1"), (2, ""), REST))[1:], [note(1, "", TONE), note(1, "1", REST), note(2, "", TONE), note(2, "1", REST)])
        self.assertEqual(after(one, ((1, "1"), (2, ""), TONE))[1:], [note(1, "", TONE), note(1, "1", TONE), note(2, "", TONE), note(2, "1", REST)])
        # To the end of the bars, over everything, just one note, and from a begin to another begin.
        self.assertEqual(after(one, ((1, "1"), (4, ""), REST)), [note(0, "", REST), note(1, "", TONE), note(1, "1", REST)])
        self.assertEqual(after(*several, ((0, ""), (4, ""), TONE)), [note(0, "", TONE)])
        self.assertEqual(after(one, ((1, ""), (2, "1"), REST)), [note(0, "", REST), note(1, "", REST), note(2, "1", REST)])
        self.assertEqual(after(*several, ((1, ""), (3, ""), TONE)), [note(0, "", REST), note(1, "", TONE), note(3, "", REST)])

    def test_cut_and_tie(self):
        score = score_of_trees(TWO, TWO)
        score.do(("part", "a"))
        score.do(("play", "a", (1, ""), (4, ""), TONE))
        score.do(("cut", "a", (2, "01")))
        self.assertEqual(notes_of(score, "a"), [((0, ""), REST), ((1, ""), TONE), ((2, "01"), TONE)])
        for moment in ((0, ""), (1, ""), (2, "01"), (4, ""), (4, "1"), (2, "10")):
            self.wrong(score, ("cut", "a", moment), BadMoment, moment)
        for moment in ((0, ""), (1, ""), (2, ""), (3, ""), (4, ""), (2, "010")):
            self.wrong(score, ("tie", "a", moment), BadMoment, moment)
        score.do(("tie", "a", (2, "01")))
        self.assertEqual(notes_of(score, "a"), [((0, ""), REST), ((1, ""), TONE)])

    def bar_notes(self, index, tree):
        score = score_of_trees(TWO, TWO)
        for name, plays in (("a", [((1, ""), (3, ""), TONE)]), ("b", [((2, ""), (4, ""), TONE)]), ("c", [])):
            score.do(("part", name))
            for begin, end, sound in plays:
                score.do(("play", name, begin, end, sound))
        before = score.signs()
        found = score.do(("bar", index, tree))
        self.assertEqual((found, len(score.bars), score.bars[index]), (score.signs(), 3, Metre(tree)))
        score.do(("undo",))
        self.assertEqual(score.signs(), before)
        score.do(("redo",))
        return [[(pulse, bits, sound[0]) for (pulse, bits), sound in score.rhythm(name).notes] for name in score.names]

    def test_bar(self):
        self.assertEqual(self.bar_notes(0, THREE), [
            [(0, "", "r"), (3, "", "r"), (4, "", "t"), (6, "", "r")], [(0, "", "r"), (3, "", "r"), (5, "", "t")], [(0, "", "r"), (3, "", "r")],
        ])
        self.assertEqual(self.bar_notes(1, 1), [
            [(0, "", "r"), (1, "", "t"), (2, "", "r"), (3, "", "t"), (4, "", "r")], [(0, "", "r"), (2, "", "r"), (3, "", "t")],
            [(0, "", "r"), (2, "", "r"), (3, "", "r")],
        ])
        self.assertEqual(self.bar_notes(2, TWO), [
            [(0, "", "r"), (1, "", "t"), (3, "", "r"), (4, "", "r")], [(0, "", "r"), (2, "", "t"), (4, "", "r")], [(0, "", "r"), (4, "", "r")],
        ])

    def drop_notes(self, index, *plays):
        score = score_of_trees(TWO, TWO, TWO)
        score.do(("part", "a"))
        for begin, end, sound in plays:
            score.do(("play", "a", begin, end, sound))
        self.assertEqual(score.do(("drop", index)), score.signs())
        self.assertEqual(len(score.bars), 2)
        return [(pulse, bits, sound[0]) for (pulse, bits), sound in notes_of(score, "a")]

    def test_drop(self):
        within = ((2, "1"), (3, ""), TONE)
        self.assertEqual(self.drop_notes(1, within), [(0, "", "r"), (2, "", "r")])
        # A note that began in the bar and lasts beyond it begins at its end.
        self.assertEqual(self.drop_notes(1, ((2, "1"), (4, "1"), TONE)), [(0, "", "r"), (2, "", "t"), (2, "1", "r")])
        # A note that began earlier ends at its begin.
        self.assertEqual(self.drop_notes(1, ((1, ""), (3, ""), TONE)), [(0, "", "r"), (1, "", "t"), (2, "", "r")])
        # One that does both is two notes.
        self.assertEqual(self.drop_notes(1, ((1, ""), (5, ""), TONE)), [(0, "", "r"), (1, "", "t"), (2, "", "t"), (3, "", "r")])
        # Notes from bar line to bar line.
        self.assertEqual(self.drop_notes(1, ((2, ""), (4, ""), TONE)), [(0, "", "r"), (2, "", "r")])
        self.assertEqual(self.drop_notes(0, ((2, ""), (4, ""), TONE)), [(0, "", "t"), (2, "", "r")])
        self.assertEqual(self.drop_notes(2, ((2, ""), (4, ""), TONE)), [(0, "", "r"), (2, "", "t")])
        # The first bar and the last one.
        self.assertEqual(self.drop_notes(0, ((1, ""), (3, ""), TONE)), [(0, "", "t"), (1, "", "r")])
        self.assertEqual(self.drop_notes(2, ((3, ""), (5, ""), TONE)), [(0, "", "r"), (3, "", "t")])
        self.assertEqual(self.drop_notes(0), [(0, "", "r")])

    def test_metre_and_book(self):
        score = score_of_trees(THREE, FOUR)
        score.do(("part", "a"))
        score.do(("play", "a", (1, "1"), (6, "01"), TONE))
        before = score.signs()
        score.do(("metre", 0, (1, TWO)))
        score.do(("metre", 1, (1, TWO, 1)))
        self.assertEqual(score.bars, (Metre((1, TWO)), Metre((1, TWO, 1))))
        self.assertEqual(score.signs(), signs(score.rhythm("a"), score.bars, Book()))
        shapes = [(1, 1, -1), (0, -1, -1), (0, 1, 1), (0, 1, 1), (2, -1, -1)]
        found = score.do(("book", shapes))
        self.assertEqual((found, score.book), (signs(score.rhythm("a"), score.bars, Book(shapes)), Book(shapes)))
        self.assertEqual(score.log()[-1], ("book", shapes))
        shapes.append((2, 2, 2))
        score.log()[-1][1].append(None)
        self.assertEqual(score.log()[-1], ("book", shapes[:-1]))
        score.do(("book", tuple(shapes)))
        self.assertEqual(score.log()[-1], ("book", shapes))
        self.assertIsInstance(score.log()[-1][1], list)
        score.do(("book", ()))
        self.assertEqual(score.book, Book())
        for _ in range(5):
            score.do(("undo",))
        self.assertEqual((score.signs(), score.bars, score.book), (before, (Metre(THREE), Metre(FOUR)), Book()))

    def test_undo_and_redo(self):
        score = score_of_trees(TWO)
        self.wrong(score, ("undo",), NothingDone)
        self.wrong(score, ("redo",), NothingDone)
        found = [score.do(("part", "a")), score.do(("play", "a", (0, "1"), (1, "1"), TONE)), score.do(("bar", 1, TWO))]
        self.assertEqual([score.do(("undo",)) for _ in range(3)], [found[1], found[0], 0])
        self.wrong(score, ("undo",), NothingDone)
        self.assertEqual((score.names, score.log()), ((), []))
        self.assertEqual([score.do(("redo",)) for _ in range(3)], found)
        self.wrong(score, ("redo",), NothingDone)
        score.do(("undo",))
        # A deed that fails leaves what can be done again; one that is done does not.
        self.wrong(score, ("part", "a"), Taken, "a")
        self.assertEqual(score.do(("redo",)), found[2])
        score.do(("undo",))
        score.do(("cut", "a", (1, "")))
        self.wrong(score, ("redo",), NothingDone)
        self.assertEqual(score.log()[-1], ("cut", "a", (1, "")))

    def test_against_a_plain_account(self):
        done = failed = 0
        for seed in range(60):
            chance = Random(seed)
            trees = [chance.choice(TREES[:6]) for _ in range(chance.randrange(1, 4))]
            score, ledger = score_of_trees(*trees), Ledger(trees)
            for _ in range(60):
                deed = some_deed(chance, ledger)
                if chance.random() < 0.2:
                    deed = bent_deed(chance, deed)
                try:
                    ledger.do(deed)
                except Wrong as wrong:
                    self.raises(getattr(errors, wrong.name), wrong.held, score.do, deed)
                    failed += 1
                else:
                    self.assertEqual(score.do(deed), score.signs())
                    done += 1
                if chance.random() < 0.2:
                    self.agrees(score, ledger)
            self.agrees(score, ledger)
            self.assertEqual(all_answers(score), all_answers(same_again(score, trees, Book())))
        self.assertGreater(done, 1200)
        self.assertGreater(failed, 400)


class WrongDeedTest(ScoreCase):
    def setUp(self):
        self.score = score_of_trees(TWO, THREE)
        self.score.do(("part", "a"))
        self.score.do(("play", "a", (1, ""), (3, "1"), TONE))

    def test_no_deeds(self):
        deeds = [
            ("part",), ("part", "b", 1), ("leave",), ("leave", "a", "a"), ("play", "a", (0, ""), (1, "")), ("play", "a", (0, ""), (1, ""), TONE, 1),
            ("cut", "a"), ("cut", "a", (0, "1"), 1), ("tie", "a"), ("bar", 0), ("bar", 0, 1, 1), ("drop",), ("drop", 0, 0), ("metre", 0),
            ("book",), ("book", [], []), ("undo", 1), ("redo", 1), ("Undo",), ("undo ",), ("", ), ("plays", "a", (0, ""), (1, ""), TONE),
            ["undo"], ["part", "b"], [("undo",)], (("undo",),), (["undo"],), (None,), "undo", ({"undo": 1},), (1, 2), ("signs",), ("log",),
        ]
        for deed in OTHERS + deeds:
            self.wrong(self.score, deed, BadDeed, 0)

    def test_names(self):
        for name in OTHERS + ["", "A", "aB", "a b", "a1", "abcdefghi", "a\n", "\na", "-", ["b"], ("b",), {"b": 1}]:
            self.wrong(self.score, ("part", name), BadName, name)
        for name in OTHERS + ["", "A", "b", "aa", ["a"], ("a",), {"a": 1}]:
            self.wrong(self.score, ("leave", name), NoPart, name)
            self.wrong(self.score, ("play", name, None, None, None), NoPart, name)
            self.wrong(self.score, ("cut", name, None), NoPart, name)
            self.wrong(self.score, ("tie", name, None), NoPart, name)
        self.wrong(self.score, ("part", "a"), Taken, "a")
        for name in ("b", "abcdefgh", "z", "zz", "c", "d", "e"):
            self.score.do(("part", name))
        self.wrong(self.score, ("part", "f"), TooMany, 8)
        self.wrong(self.score, ("part", "z"), Taken, "z")
        self.wrong(self.score, ("part", "Z"), BadName, "Z")
        self.score.do(("leave", "a"))
        self.score.do(("part", "f"))
        self.assertEqual(len(self.score.names), 8)

    def test_moments_and_sounds(self):
        wrong = [
            (5, "1"), (6, ""), (-1, ""), (1, "10"), (1, "2"), (True, ""), (1, None), (1,), (1, "", ""), [1, ""], ("1", ""), (10 ** 60, ""),
            ([1], ""), (1, ["1"]), (1, ("1",)),
        ]
        others = [thing for thing in OTHERS if thing != (0, "")]
        for moment in others + wrong + [(5, "")]:
            for end, sound in (((2, ""), TONE), (None, None), ((5, ""), TONE)):
                self.wrong(self.score, ("play", "a", moment, end, sound), BadMoment, moment)
            self.wrong(self.score, ("cut", "a", moment), BadMoment, moment)
            self.wrong(self.score, ("tie", "a", moment), BadMoment, moment)
        for moment in others + wrong + [(0, ""), (1, ""), (0, "1")]:
            for sound in (TONE, None):
                self.wrong(self.score, ("play", "a", (1, ""), moment, sound), BadMoment, moment)
        for sound in OTHERS + ["Tone", "tones", "", ["tone"], ("tone",), "tone "]:
            self.wrong(self.score, ("play", "a", (1, ""), (5, ""), sound), BadSound)
        lone = score_of_trees(1)
        lone.do(("part", "a"))
        for end in ((True, ""), (1, None), (1, "1"), (2, ""), [1, ""]):
            self.wrong(lone, ("play", "a", (0, ""), end, TONE), BadMoment, end)
        self.assertEqual(lone.do(("play", "a", (0, ""), (1, ""), TONE)), 1)

    def test_bars(self):
        others = [thing for thing in OTHERS if type(thing) is not int or thing not in (0, 1, 2)]
        for index in others + [3, -1, 10 ** 60, "0", (0,), [0], True, False]:
            for tree in (1, None, (1, 1, 1, 1)):
                self.wrong(self.score, ("bar", index, tree), BadBar, index)
                self.wrong(self.score, ("metre", index, tree), BadBar, index)
            self.wrong(self.score, ("drop", index), BadBar, index)
        for tree in (THREE, None):
            self.wrong(self.score, ("metre", 2, tree), BadBar, 2)
        self.wrong(self.score, ("drop", 2), BadBar, 2)
        self.score.do(("drop", 1))
        for index in (0, 1, None, True):
            self.wrong(self.score, ("drop", index), BadBar, index)

    def test_metres(self):
        for tree in OTHERS + [(1, 1, 1, 1), [1, 1], (1,), (1, 2), ((1, 1, 1, 1), 1), (1, (1, (1, (1, (1, 1)))))]:
            if type(tree) is int and tree == 1:
                continue
            self.wrong(self.score, ("bar", 0, tree), BadMetre)
            self.wrong(self.score, ("metre", 0, tree), BadMetre)
        for index, tree in ((0, THREE), (0, 1), (1, TWO), (1, FOUR)):
            self.wrong(self.score, ("metre", index, tree), BadMetre)

    def test_books(self):
        for shapes in OTHERS:
            if not isinstance(shapes, (list, tuple)):
                self.wrong(self.score, ("book", shapes), BadBook, 0)
        self.wrong(self.score, ("book", Book()), BadBook, 0)
        self.wrong(self.score, ("book", [(0, 1, 1), (0, 1, 1), (0, 1, 3), None]), BadBook, 2)
        self.wrong(self.score, ("book", ((0, 1, 1), [0, 1, 1])), BadBook, 1)
        self.wrong(self.score, ("book", [(True, 1, 1)]), BadBook, 0)

    def test_too_many_bars(self):
        score = score_of_trees(*[TWO] * 24)
        self.wrong(score, ("bar", 0, 1), TooMany, 24)
        self.wrong(score, ("bar", 24, 2), BadMetre)
        self.wrong(score, ("bar", 25, 1), BadBar, 25)
        score = score_of_trees(*[SIXTEEN] * 14, *[TWO] * 7)
        self.wrong(score, ("bar", 3, THREE), TooMany, 240)
        self.assertEqual(score.do(("bar", 3, TWO)), 0)
        self.wrong(score, ("bar", 3, 1), TooMany, 240)
        score = score_of_trees(*[SIXTEEN] * 13, *[1] * 11)
        self.wrong(score, ("bar", 0, SIXTEEN), TooMany, 24)

    def filled(self, many):
        """A score of three bars with so many notes in its part b, the last of which goes over all of the last bars."""
        score = score_of_trees(SIXTEEN, SIXTEEN, SIXTEEN)
        for name in ("a", "b", "c"):
            score.do(("part", name))
        for number in range(many - 1):
            begin = (number // 16, ("1" + f"{number % 16:04b}").rstrip("0"))
            score.do(("cut", "b", begin))
        return score

    def test_too_many_notes(self):
        score = self.filled(199)
        self.assertEqual(len(score.rhythm("b")), 199)
        score.do(("cut", "b", (40, "")))
        self.assertEqual(len(score.rhythm("b")), 200)
        self.wrong(score, ("cut", "b", (41, "")), TooMany, 200)
        self.wrong(score, ("play", "b", (41, ""), (42, ""), TONE), TooMany, 200)
        self.wrong(score, ("bar", 0, 1), TooMany, 200)
        self.wrong(score, ("bar", 2, 1), TooMany, 200)
        score.do(("play", "b", (40, ""), (48, ""), TONE))
        score.do(("play", "b", (40, ""), (48, ""), REST))
        score.do(("tie", "b", (40, "")))
        self.wrong(score, ("bar", 2, 1), TooMany, 200)
        score.do(("bar", 3, 1))
        self.assertEqual(len(score.rhythm("b")), 200)

    def test_a_drop_with_too_many_notes(self):
        score = self.filled(198)
        score.do(("play", "b", (14, ""), (15, ""), TONE))
        self.assertEqual(len(score.rhythm("b")), 200)
        self.assertEqual(score.rhythm("b").notes[-1][0], (15, ""))
        # The last note goes over all of the second bar and beyond: without this bar it is two.
        self.wrong(score, ("drop", 1), TooMany, 200)
        score.do(("cut", "a", (1, "")))
        score.do(("tie", "b", (0, "1")))
        score.do(("drop", 1))
        self.assertEqual(len(score.rhythm("b")), 200)

    def test_two_errors_at_once(self):
        score = self.score
        self.wrong(score, ("play", "b", (9, ""), (9, ""), 1), NoPart, "b")
        self.wrong(score, ("play", "a", (9, ""), (8, ""), 1), BadMoment, (9, ""))
        self.wrong(score, ("play", "a", (2, ""), (2, ""), 1), BadMoment, (2, ""))
        self.wrong(score, ("bar", 7, None), BadBar, 7)
        self.wrong(score, ("metre", 7, None), BadBar, 7)


class TogetherTest(ScoreCase):
    def test_do_all(self):
        score = score_of_trees(TWO)
        deeds = [("part", "a"), ("play", "a", (0, "1"), (1, "1"), TONE), ("undo",), ("bar", 1, TWO), ("undo",), ("redo",)]
        alone = score.twin()
        self.assertEqual(score.do_all(deeds), [alone.do(deed) for deed in deeds])
        self.assertEqual((score, score.log()), (alone, [deeds[0], deeds[3]]))
        self.assertEqual(score.do_all(deeds=tuple(deeds[4:])), [1, 2])
        self.assertEqual((score.do_all([]), score.do_all(())), ([], []))

    def test_items_that_are_none_ahead_of_anything(self):
        score = score_of_trees(TWO)
        score.do(("part", "a"))
        before = all_answers(score)
        for thing in OTHERS + ["deeds", ("undo",), {("undo",): 1}]:
            if not isinstance(thing, (list, tuple)):
                self.raises(BadDeed, (0,), score.do_all, thing)
        self.raises(BadDeed, (0,), score.do_all, ("undo",))
        for at, deeds in (
            (2, [("part", "b"), ("part", "b"), None]), (1, [("leave", "z"), ["undo"], ("undo",)]), (0, [()]), (1, (("undo",), ("part",), 1)),
        ):
            self.raises(BadDeed, (at,), score.do_all, deeds)
            self.assertEqual(all_answers(score), before)

    def test_the_first_that_fails(self):
        score = score_of_trees(TWO)
        score.do_all([("part", "a"), ("part", "c"), ("undo",)])
        before, twin = all_answers(score), score.twin()
        for deeds, error, held in (
            ([("part", "b"), ("leave", "a"), ("part", "b")], Taken, ("b",)),
            ([("undo",), ("undo",)], NothingDone, ()),
            ([("part", "b"), ("redo",)], NothingDone, ()),
            ([("book", [(0, 1, 1)]), ("book", [None])], BadBook, (0,)),
            ([("bar", 0, 1), ("drop", 5), ("part", "A")], BadBar, (5,)),
        ):
            self.raises(error, held, score.do_all, deeds)
            self.assertEqual((all_answers(score), score), (before, twin))
        # What was taken back can still be done again.
        self.assertEqual(score.do(("redo",)), 2)

    def test_attempt(self):
        score = score_of_trees(TWO)
        self.assertEqual(score.attempt(lambda same: (same is score, same.do(("part", "a")))), (True, 1))
        self.assertIsNone(score.attempt(work=lambda same: None))
        self.assertEqual(score.names, ("a",))

        class Odd(BaseException):
            pass

        score.do(("cut", "a", (1, "")))
        score.do(("undo",))
        for error in (Odd("x"), ValueError("x"), BadSound("x"), KeyboardInterrupt(), GeneratorExit(), SystemExit(1)):
            def work(same):
                same.do(("part", "b"))
                # Another name of the same score.
                score.do_all([("book", [(0, 1, 1)]), ("bar", 0, 1), ("undo",), ("undo",), ("undo",), ("undo",), ("part", "c")])
                raise error

            before, twin = all_answers(score), score.twin()
            with self.assertRaises(type(error)) as caught:
                score.attempt(work)
            self.assertIs(caught.exception, error)
            self.assertEqual((all_answers(score), score), (before, twin))
            self.assertEqual((score.names, score.bars, score.book), (("a",), (Metre(TWO),), Book()))
        self.assertEqual(score.do(("redo",)), 2)

    def test_nested_attempts(self):
        score = score_of_trees(TWO)

        def inner(same):
            same.do(("part", "b"))
            raise KeyError("b")

        def outer(same):
            same.do(("part", "a"))
            with self.assertRaises(KeyError):
                same.attempt(inner)
            self.assertEqual(same.names, ("a",))
            same.attempt(lambda again: again.do(("part", "c")))
            return same.names

        def failing(same):
            same.attempt(outer)
            raise KeyError("all")

        with self.assertRaises(KeyError):
            score.attempt(failing)
        self.assertEqual((score.names, score.log()), ((), []))
        self.assertEqual(score.attempt(outer), ("a", "c"))
        self.assertEqual(score.log(), [("part", "a"), ("part", "c")])
        with self.assertRaises(NothingDone):
            score.attempt(lambda same: same.do(("redo",)))

    def test_log(self):
        score = score_of_trees(TWO)
        begin = (0, "1")
        play = ("play", "a", begin, (1, ""), TONE)
        score.do_all([("part", "a"), play, ("cut", "a", (1, "1")), ("undo",)])
        self.assertIs(score.log()[1], play)
        score.log().clear()
        self.assertEqual(score.log(), [("part", "a"), play])

    def test_twin(self):
        score = score_of_trees(TWO, THREE, book=Book(EXTRA[:3]))
        score.do_all([("part", "a"), ("part", "b"), ("cut", "a", (1, "")), ("undo",), ("undo",)])
        twin = score.twin()
        self.assertEqual((twin, all_answers(twin)), (score, all_answers(score)))
        before = all_answers(score)
        self.assertEqual(twin.do(("redo",)), 4)
        self.assertEqual(twin.do(("redo",)), 5)
        self.wrong(twin, ("redo",), NothingDone)
        twin.do(("leave", "a"))
        self.assertEqual(all_answers(score), before)
        score.do(("undo",))
        self.wrong(score, ("undo",), NothingDone)
        self.assertEqual(twin.names, ("b",))
        for _ in range(4):
            twin.do(("undo",))
        self.wrong(twin, ("undo",), NothingDone)
        self.assertEqual(twin, score)

    def test_histories(self):
        """After any row of deeds all answers are those of a new score that does the deeds of the log."""
        for seed in range(25):
            chance = Random(1000 + seed)
            trees = [chance.choice(TREES[:5]) for _ in range(chance.randrange(1, 4))]
            score, ledger, pairs = score_of_trees(*trees), Ledger(trees), []
            for _ in range(50):
                deed = some_deed(chance, ledger)
                kind = chance.randrange(4)
                try:
                    if kind == 0:
                        score.do_all([deed, ("undo",), ("redo",)] if deed[0] not in ("undo", "redo") else [deed])
                    elif kind == 1:
                        score.attempt(lambda same: [same.do(deed), 1 // 0])
                    else:
                        score.do(deed)
                except RhythmError:
                    continue
                except ZeroDivisionError:
                    continue
                ledger.do(deed)
                if chance.random() < 0.1:
                    pairs.append((score.twin(), all_answers(score)))
            self.agrees(score, ledger)
            self.assertEqual(all_answers(score), all_answers(same_again(score, trees, Book())))
            self.assertEqual(score, same_again(score, trees, Book()))
            for twin, answers in pairs:
                self.assertEqual(all_answers(twin), answers)

    def test_thousands_of_deeds(self):
        score = score_of_trees(TWO)
        score.do(("part", "a"))
        for _ in range(1500):
            score.do(("cut", "a", (1, "")))
            score.do(("tie", "a", (1, "")))
        self.assertEqual(len(score.log()), 3001)
        for _ in range(3001):
            score.do(("undo",))
        for _ in range(3001):
            score.do(("redo",))
        self.assertEqual((len(score.log()), score.signs()), (3001, 1))


if __name__ == "__main__":
    unittest.main()
