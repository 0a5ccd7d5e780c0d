"""barscribe.texts: point 68 of the document."""

import unittest
from random import Random

from barscribe.errors import BadBook, BadMetre, BadMoment, BadRhythm, BadRow, BadScore, BadText, NothingDone, TooMany
from barscribe.metres import Metre, is_tree
from barscribe.rhythms import Rhythm
from barscribe.scores import Score
from barscribe.shapes import Book
from barscribe.texts import (
    book_text, moment_text, read_book, read_moment, read_score, read_tree, score_text, tree_text,
)
from tests.deeds import some_deed
from tests.ledger import Ledger, Wrong
from tests.notes import digits
from tests.reference import all_trees
from tests.test_rhythms import REST, TONE
from tests.values import CUT, EXTRA, OTHERS, SHAPES, SIXTEEN, TREES, some_books

TWO = (1, 1)

NO_STRINGS = [thing for thing in OTHERS if not isinstance(thing, str)]


def bent_texts(text, signs):
    """A text with one sign more, less or otherwise, at each place, and a few others."""
    for at in range(len(text) + 1):
        yield text[:at] + text[at + 1:]
        for sign in signs:
            yield text[:at] + sign + text[at:]
            yield text[:at] + sign + text[at + 1:]
    yield from (text + text, text[::-1], text + " ", " " + text, text + "\n", text.upper(), text.replace(" ", "  "))


class TextCase(unittest.TestCase):
    def wrong(self, read, text, line=0):
        with self.assertRaises(BadText) as caught:
            read(text)
        self.assertEqual((caught.exception.line, type(caught.exception.line)), (line, int))


class TreeTest(TextCase):
    def texts(self, most):
        return {self.by_words(tree): tree for pulses in range(1, most + 1) for tree in all_trees(pulses)}

    def by_words(self, tree):
        return repr(tree).replace(",", "")

    def test_written_and_read_back(self):
        for text, tree in self.texts(8).items():
            self.assertEqual(tree_text(tree), text)
            self.assertEqual(read_tree(text), tree)
        for tree in TREES + CUT + [SIXTEEN]:
            self.assertEqual(read_tree(tree_text(tree)), tree)
        self.assertEqual((tree_text(tree=(1, (1, 1, 1))), read_tree(text="(1 (1 1 1))")), ("(1 (1 1 1))", (1, (1, 1, 1))))

    def test_one_sign_more_less_or_otherwise(self):
        known, wrong = self.texts(8), 0
        for text in [text for text, tree in self.texts(6).items()] + ["(((1 1) (1 1)) ((1 1) 1))"]:
            for other in bent_texts(text, "1( )02,-"):
                if other in known:
                    self.assertEqual(read_tree(other), known[other])
                else:
                    self.wrong(read_tree, other)
                    wrong += 1
        self.assertGreater(wrong, 3000)

    def test_no_texts(self):
        for thing in NO_STRINGS + ["", " ", "()", "(1)", "(1 1", "1 1", "(1 1 1 1)", "[1 1]", "(1, 1)", "(1 (1 1 1 1))", "((1 1) 1 (1 1) 1)"]:
            self.wrong(read_tree, thing)
        # Five pulses in a node, five levels, seventeen pulses.
        eight = "(((1 1) (1 1)) ((1 1) (1 1)))"
        for text in (f"(1 {tree_text(CUT[0])})", "(1 (1 (1 (1 (1 1)))))", f"({eight} {eight} 1)", "((((" + "(1 1) 1) 1) 1) 1)"):
            self.wrong(read_tree, text)
        self.assertEqual(read_tree(f"({eight} {eight})"), SIXTEEN)

    def test_thousands_of_brackets(self):
        for many in (5, 6, 1000, 30000):
            for text in ("(" * many, ")" * many, "(" * many + "1" + ")" * many, "(1 " * many + "1" + ")" * many, "(" + "1 " * many + "1)", "1" * many):
                self.wrong(read_tree, text)

    def test_no_trees(self):
        for thing in OTHERS:
            if is_tree(thing):
                self.assertEqual(read_tree(tree_text(thing)), thing)
            else:
                with self.assertRaises(BadMetre):
                    tree_text(thing)


class MomentTest(TextCase):
    def test_written_and_read_back(self):
        chance = Random(1)
        for _ in range(300):
            moment = (chance.choice([0, 1, 9, 10, 99, 100, 239, 999, chance.randrange(1000)]), digits(chance, chance.randrange(9)))
            text = str(moment[0]) + ("." + moment[1] if moment[1] else "")
            self.assertEqual((moment_text(moment), read_moment(text)), (text, moment))
        deep = (999, "01" * 5000)
        self.assertEqual(read_moment(moment_text(deep)), deep)
        self.assertEqual((moment_text(moment=(3, "011")), read_moment(text="3.011")), ("3.011", (3, "011")))

    def test_one_sign_more_less_or_otherwise(self):
        def value(text):
            head, dot, bits = text.partition(".")
            if not head or set(head) - set("0123456789") or str(int(head)) != head or len(head) > 3:
                return None
            if dot and (not bits or set(bits) - {"0", "1"} or bits[-1] == "0"):
                return None
            return (int(head), bits)

        wrong = right = 0
        for text in ("0", "7", "10", "239", "999", "0.1", "3.011", "100.1", "12.01"):
            for other in bent_texts(text, "0123.-+_ e"):
                if value(other) is None:
                    self.wrong(read_moment, other)
                    wrong += 1
                else:
                    self.assertEqual(read_moment(other), value(other))
                    right += 1
        self.assertGreater(min(wrong, right), 100)

    def test_no_texts(self):
        texts = ["", ".", "1.", ".1", "00", "01", "007", "1000", "1" * 5000, "0" * 5000, "1.10", "1.2", "-1", "+1", "1,1", "1.1.1", " 1", "1 ", "1\n", "a"]
        for thing in NO_STRINGS + texts:
            self.wrong(read_moment, thing)

    def test_no_moments(self):
        wrong = [
            (1000, ""), (-1, ""), (10 ** 60, "1"), (True, ""), (0, "10"), (0, "2"), (0, None), (0,), (0, "", ""), [0, ""], ("0", ""), (None, ""),
            (0, ["1"]),
        ]
        for thing in OTHERS + wrong:
            with self.assertRaises(BadMoment) as caught:
                moment_text(thing)
            self.assertIs(caught.exception.moment, thing)


class BookTest(TextCase):
    def by_words(self, shapes):
        return " ".join(":".join(map(str, shape)) for shape in shapes)

    def test_written_and_read_back(self):
        for book in some_books(40, 1):
            text = self.by_words(book.extra)
            self.assertEqual((book_text(book), read_book(text)), (text, book))
        self.assertEqual((book_text(Book()), read_book("")), ("", Book()))
        self.assertEqual(book_text(book=Book([(1, 0, -1), (0, -1, 2)])), "0:-1:2 1:0:-1")
        self.assertEqual(read_book(text="0:-1:2 1:0:-1"), Book([(1, 0, -1), (0, -1, 2)]))

    def test_one_sign_more_less_or_otherwise(self):
        known = {self.by_words([shape]): shape for shape in SHAPES}

        def value(text):
            shapes = [known.get(word) for word in text.split(" ")] if text else []
            good = all(shapes) and shapes == sorted(set(shapes)) and all(shape in EXTRA for shape in shapes)
            return Book(shapes) if good else None

        wrong = right = 0
        for shapes in ([], EXTRA[:1], EXTRA[3:5], EXTRA[5:30:7], EXTRA):
            for other in bent_texts(self.by_words(shapes), "0123:- "):
                if value(other) is None:
                    self.wrong(read_book, other)
                    wrong += 1
                else:
                    self.assertEqual(read_book(other), value(other))
                    right += 1
        self.assertGreater(wrong, 1000)
        self.assertGreater(right, 10)

    def test_no_texts(self):
        texts = [
            "0:-1:-1", "2:-1:-1", "0:1:1 0:-1:2", "0:1:1 0:1:1", "0:1:1  1:1:1", " 0:1:1", "0:1:1 ", " ", "0:1", "0:1:1:1", "0:1:3", "3:1:1",
            "0:01:1", "00:1:1", "0:+1:1", "0:1:1\n", "0:1:1\n1:1:1", "0: 1:1", "0:-0:1", "0:1:1 -1:1:1", "book", ":" * 5000, "0" * 5000,
        ]
        for thing in NO_STRINGS + texts:
            self.wrong(read_book, thing)

    def test_no_books(self):
        for thing in OTHERS + [(), Book().shapes]:
            if not isinstance(thing, Book):
                with self.assertRaises(BadBook) as caught:
                    book_text(thing)
                self.assertEqual(caught.exception.index, 0)


TEXT = """book 0:1:1 1:-1:1
bar (1 1)
bar ((1 1) 1)
part a
0 rest
0.1 tone
1.1 rest
part bass
0 tone
"""

LINES = TEXT.split("\n")[:-1]


def joined(lines):
    return "".join(line + "\n" for line in lines)


class ScoreTest(TextCase):
    def score(self):
        score = Score([Metre(TWO), Metre((TWO, 1))], Book([(1, -1, 1), (0, 1, 1)]))
        score.do_all([("part", "bass"), ("part", "a"), ("play", "a", (0, "1"), (1, "1"), TONE), ("play", "bass", (0, ""), (5, ""), TONE)])
        return score

    def test_the_lines(self):
        self.assertEqual(score_text(self.score()), TEXT)
        self.assertEqual(score_text(score=Score([Metre(1)], Book())), "book\nbar 1\n")
        for thing in OTHERS + [TEXT, Rhythm(1, [((0, ""), TONE)])]:
            with self.assertRaises(BadScore):
                score_text(thing)

    def test_read_back(self):
        chance, parts = Random(1), 0
        for _ in range(60):
            trees = [chance.choice(TREES[:6]) for _ in range(chance.randrange(1, 4))]
            score, ledger = Score([Metre(tree) for tree in trees], Book(chance.sample(EXTRA, 2))), Ledger(trees)
            for _ in range(25):
                deed = some_deed(chance, ledger)
                try:
                    ledger.do(deed)
                except Wrong:
                    continue
                score.do(deed)
            text = score_text(score)
            found = read_score(text)
            self.assertEqual((found.bars, found.book, found.names), (score.bars, score.book, score.names))
            for name in score.names:
                self.assertEqual(found.rhythm(name), score.rhythm(name))
                self.assertEqual(found.signs(name), score.signs(name))
            self.assertEqual((score_text(found), found.log(), found.signs()), (text, [], score.signs()))
            for word in ("undo", "redo"):
                with self.assertRaises(NothingDone):
                    found.do((word,))
            parts += len(score.names)
        self.assertGreater(parts, 40)
        self.assertEqual(score_text(read_score(text=TEXT)), TEXT)

    def test_a_score_that_was_read_goes_on(self):
        score = read_score(TEXT)
        self.assertFalse(score == self.score())
        self.assertEqual(score.do(("leave", "bass")), score.signs("a"))
        self.assertEqual(score.do(("undo",)), self.score().signs())
        self.assertEqual((score, score.names), (read_score(TEXT), ("a", "bass")))
        with self.assertRaises(NothingDone):
            score.do(("undo",))

    def test_equal_scores_have_equal_parts(self):
        others = [TEXT.replace("tone\npart", "rest\npart").replace("1.1 rest", "1.1 tone"), joined(LINES[:7]), TEXT.replace("(1 1) 1", "1 (1 1)")]
        others += [TEXT.replace(" 1:-1:1", ""), TEXT.replace("bass", "bas"), TEXT.replace("0.1 tone", "0.01 tone")]
        for other in others:
            self.assertFalse(read_score(other) == read_score(TEXT))
        self.assertTrue(read_score(TEXT) == read_score(TEXT))

    def test_ends(self):
        self.wrong(read_score, "", 0)
        self.wrong(read_score, "\n", 0)
        for many in range(1, len(LINES) + 1):
            good = many >= 2 and not LINES[many - 1].startswith("part")
            if good:
                self.assertEqual(score_text(read_score(joined(LINES[:many]))), joined(LINES[:many]))
            else:
                self.wrong(read_score, joined(LINES[:many]), many)
            # Without the last newline.
            self.wrong(read_score, joined(LINES[:many])[:-1], many)
            self.wrong(read_score, joined(LINES[:many]) + "\n", many)
            # The last line is judged first.
            self.wrong(read_score, joined(LINES[:many])[:-2] + "X", many - 1)
        self.wrong(read_score, "book", 1)
        self.wrong(read_score, "book\nbar (1 1", 1)

    def test_lines_left_out_twice_or_exchanged(self):
        for at, line in enumerate(LINES[:7]):
            if at not in (1, 2):
                # Without the part ahead of it the notes follow other lines.
                wanted = {0: 0, 3: 3, 4: 4, 5: None, 6: None}[at]
                left = joined(LINES[:at] + LINES[at + 1:])
                if wanted is None:
                    self.assertEqual(score_text(read_score(left)), left)
                else:
                    self.wrong(read_score, left, wanted)
            twice = joined(LINES[:at] + [line] + LINES[at:])
            if at in (1, 2):
                self.assertEqual(len(read_score(twice).bars), 3)
            else:
                self.wrong(read_score, twice, at + 1)
        exchanged = {0: 0, 1: None, 2: 3, 3: 3, 4: 4, 5: 6, 6: 7, 7: 7}
        for at, wanted in exchanged.items():
            text = joined(LINES[:at] + LINES[at:at + 2][::-1] + LINES[at + 2:])
            if wanted is None:
                self.assertEqual(read_score(text).bars, (Metre((TWO, 1)), Metre(TWO)))
            else:
                self.wrong(read_score, text, wanted)
        self.wrong(read_score, joined(LINES[:3] + LINES[7:9] + LINES[3:7]), 5)
        self.wrong(read_score, joined(LINES[:7] + LINES[3:5]), 7)
        self.wrong(read_score, joined(LINES[:7] + ["bar 1"]), 7)
        self.wrong(read_score, joined(LINES[:7] + ["book"]), 7)

    def test_each_line_of_another_form(self):
        forms = {
            0: ["", "book ", "Book", "books", " book", "book  0:1:1", "book 0:1:1 ", "book 1:1:1 0:1:1", "book 0:-1:-1", "book 0:1:1 0:1:1", "bar 1"],
            1: ["", "bar", "bar ", "bar  1", "bar 1 ", "bar (1)", "bar (1 1", "bar 2", "Bar 1", "bar (1 1 1 1)", "part a", "0 tone", "book"],
            3: ["", "part", "part ", "part  a", "part a ", "part A", "part a b", "part abcdefghi", "part a1", "Part a", "0 tone", "bas 1", "bar (1 1"],
            4: ["", "0", "0 ", "0  tone", "0 tone ", " 0 tone", "0 Tone", "0 tones", "0.1 tone", "1 tone", "00 tone", "0. tone", "bar 1", "part b"],
            5: ["", "0 tone", "0.10 tone", "0.1", "0.1 tone rest", "1000 tone", "01 tone", ".1 tone", "-1 tone", "1 2 tone", "0.1  rest", "tone"],
        }
        for at, lines in forms.items():
            for line in lines:
                self.wrong(read_score, joined(LINES[:at] + [line] + LINES[at + 1:]), at)
                self.wrong(read_score, joined(LINES[:at] + [line]), at)
                if line != "":
                    self.wrong(read_score, joined(LINES[:at] + [line])[:-1], at)

    def test_names_and_moments_ascend_strictly(self):
        head = "book\nbar ((1 1) (1 1))\n"
        self.wrong(read_score, head + "part b\n0 tone\npart b\n0 tone\n", 4)
        self.wrong(read_score, head + "part b\n0 tone\npart a\n0 tone\n", 4)
        self.wrong(read_score, head + "part b\n0 tone\npart az\n0 tone\n", 4)
        self.assertEqual(read_score(head + "part a\n0 tone\npart aa\n0 tone\npart b\n0 tone\n").names, ("a", "aa", "b"))
        self.wrong(read_score, head + "part a\n0 tone\npart c\n0 tone\npart b\n0 tone\n", 6)
        self.wrong(read_score, head + "part a\n0 tone\n0 rest\n", 4)
        self.wrong(read_score, head + "part a\n0 tone\n2 rest\n1.1 rest\n", 5)
        self.wrong(read_score, head + "part a\n0 tone\n2.1 rest\n2.1 rest\n", 5)
        self.wrong(read_score, head + "part a\n0 tone\n2.1 rest\n2.011 rest\n", 5)
        self.wrong(read_score, head + "part a\n0.1 tone\n", 3)
        self.wrong(read_score, head + "part a\n1 tone\n", 3)

    def raises(self, error, text, *held):
        with self.assertRaises(error) as caught:
            read_score(text)
        self.assertEqual(list(vars(caught.exception).values()), list(held))

    def test_errors_behind_the_form(self):
        sixteen = "bar " + tree_text(SIXTEEN)
        nine = "".join(f"part {name}\n0 tone\n" for name in "abcdefghi")
        late = "part a\n0 tone\n2 rest\n"
        self.raises(BadRow, "book\n" + "bar 1\n" * 25 + nine)
        self.raises(BadRow, "book\n" + (sixteen + "\n") * 15 + "bar 1\n" + nine)
        self.assertEqual(len(read_score("book\n" + "bar 1\n" * 24).bars), 24)
        self.assertEqual(len(read_score("book\n" + (sixteen + "\n") * 15).bars), 15)
        self.raises(TooMany, "book\nbar 1\n" + nine.replace("0 tone\n", "0 tone\n1 rest\n"), 8)
        self.assertEqual(len(read_score("book\nbar 1\n" + nine[:-len("part i\n0 tone\n")]).names), 8)
        self.raises(BadRhythm, "book\nbar 1\npart a\n0 tone\n0.1 tone\n1 tone\n2 tone\n", 2)
        self.raises(BadRhythm, "book\nbar (1 1)\n" + late + "part b\n0 tone\n999 rest\n", 1)
        self.raises(BadRhythm, "book\nbar (1 1 1)\n" + late + "part b\n0 tone\n1 rest\n999 rest\n", 2)
        many = "".join(f"{pulse}{bits} tone\n" for pulse in range(101) for bits in ("", ".1"))
        self.raises(BadRhythm, "book\n" + (sixteen + "\n") * 7 + "part a\n" + many, 200)
        self.raises(BadRhythm, "book\n" + (sixteen + "\n") * 5 + "part a\n" + many, 160)
        # The form of a later line comes first.
        self.wrong(read_score, "book\n" + "bar 1\n" * 25 + "bar\n", 26)
        self.wrong(read_score, "book\nbar 1\npart a\n0 tone\n7 tone", 5)
        two = "".join(f"{pulse}{bits} tone\n" for pulse in range(100) for bits in ("", ".1"))
        self.assertEqual(len(read_score("book\n" + (sixteen + "\n") * 7 + "part a\n" + two).rhythm("a")), 200)

    def test_no_strings(self):
        for thing in NO_STRINGS + [LINES, tuple(LINES)]:
            self.wrong(read_score, thing)
        self.wrong(read_score, "(" * 5000 + "\n", 0)
        self.wrong(read_score, "book\nbar " + "(" * 5000 + "\n", 1)
        self.wrong(read_score, "book\nbar 1\npart a\n" + "0" * 5000 + " tone\n", 3)

    def test_deep_moments(self):
        bits = "01" * 5000
        text = f"book\nbar 1\npart a\n0 tone\n0.{bits} {REST}\n"
        self.assertEqual(score_text(read_score(text)), text)
        self.assertEqual(read_score(text).rhythm("a").notes[1], ((0, bits), REST))


if __name__ == "__main__":
    unittest.main()
