"""barscribe.console: the lines of the interface."""

import re
import unittest
from random import Random

from barscribe import errors
from barscribe.alike import compare
from barscribe.console import Console, replies
from barscribe.errors import BadText, RhythmError
from barscribe.far import fewest
from barscribe.metres import Metre
from barscribe.scores import Score
from barscribe.shapes import Book
from barscribe.texts import moment_text, read_tree, score_text, tree_text
from tests.deeds import some_deed
from tests.ledger import Ledger, Wrong
from tests.values import OTHERS, SHAPES, SIXTEEN

NAME, MOMENT, SOUND, INDEX = r"([a-z]{1,8})", r"((?:0|[1-9]\d{0,2})(?:\.[01]*1)?)", "(tone|rest)", r"(0|[1-9]\d?)"
TREE, SHAPE_LIST = r"([1( )]+)", r"((?: [012]:(?:-1|[012]):(?:-1|[012]))*)"

FORMS = [
    f"(part) {NAME}", f"(leave) {NAME}", f"(play) {NAME} {MOMENT} {MOMENT} {SOUND}", f"(cut) {NAME} {MOMENT}", f"(tie) {NAME} {MOMENT}",
    f"(bar) {INDEX} {TREE}", f"(drop) {INDEX}", f"(metre) {INDEX} {TREE}", f"(book){SHAPE_LIST}", "(undo)", "(redo)", "(signs)",
    f"(signs) {NAME}", f"(show) {NAME}", f"(fewest) {TREE} {MOMENT} {MOMENT}", f"(alike){SHAPE_LIST}", "(text)",
]


def moment(text):
    head, _, bits = text.partition(".")
    return (int(head), bits)


def shapes(text):
    return [tuple(int(part) for part in word.split(":")) for word in text.split()]


def tree(text):
    """The tree of a text, or None."""
    try:
        return read_tree(text)
    except BadText:
        return None


def parts_of(line):
    """The word and the parts of a line of one of the forms, as texts, or None."""
    for form in FORMS:
        found = re.fullmatch(form, line, re.ASCII)
        if found and not line.endswith("\n"):
            word, *parts = found.groups()
            trees = {"bar": 1, "metre": 1, "fewest": 0}
            if word in trees and tree(parts[trees[word]]) is None:
                return None
            return word, parts
    return None


class ByWords:
    """A console straight from the words of the interface, with a score of its own."""

    def __init__(self):
        self.score = Score([Metre((1, 1))], Book())

    def reply(self, line):
        found = parts_of(line)
        if found is None:
            return "unknown"
        try:
            return self.answer(*found)
        except RhythmError as error:
            return "error " + type(error).__name__.lower()

    def answer(self, word, parts):
        score = self.score
        if word == "play":
            return str(score.do((word, parts[0], moment(parts[1]), moment(parts[2]), parts[3])))
        if word in ("cut", "tie"):
            return str(score.do((word, parts[0], moment(parts[1]))))
        if word in ("bar", "metre"):
            return str(score.do((word, int(parts[0]), tree(parts[1]))))
        if word == "drop":
            return str(score.do((word, int(parts[0]))))
        if word == "book":
            return str(score.do((word, shapes(parts[0]))))
        if word in ("part", "leave", "undo", "redo"):
            return str(score.do((word, *parts)))
        return self.told(word, parts)

    def told(self, word, parts):
        score = self.score
        if word == "signs":
            return str(score.signs(*parts))
        if word == "show":
            bars = []
            for bar in score.written(parts[0]):
                bars.append(" ".join("-".join(moment_text(point) for point in points) for _, points in bar))
            return " | ".join(bars)
        if word == "fewest":
            return str(fewest(Metre(tree(parts[0])), score.book, moment(parts[1]), moment(parts[2])))
        if word == "text":
            return score_text(score)[:-1].replace("\n", "; ")
        for index, metre in enumerate(score.bars):
            answer = compare(metre, score.book, metre, Book(shapes(parts[0])))
            if answer[0] == "parted":
                return f"{index} {moment_text(answer[1])} {moment_text(answer[2])}"
        return "alike"


def line_of(deed):
    """The line that tells a deed."""
    found = []
    for part in deed:
        if isinstance(part, list) or part and isinstance(part, tuple) and isinstance(part[0], tuple) and len(part[0]) == 3 and deed[0] == "book":
            found.extend(":".join(map(str, shape)) for shape in part)
        elif deed[0] in ("bar", "metre") and part is deed[-1]:
            found.append(tree_text(part))
        elif isinstance(part, tuple):
            found.extend([moment_text(part)] if part else [])
        else:
            found.append(str(part))
    return " ".join(found)


QUESTIONS = [
    "signs", "signs a", "signs b", "signs z", "show a", "show b", "show z", "text", "alike", "alike 1:-1:1", "fewest (1 1) 0 1.1",
    "fewest ((1 1) (1 1)) 0 3", "fewest 1 0 1.1", "fewest (1 1) 1 1", "fewest (1 1) 1 0.1", "fewest (1 1) 0 2",
]


def bent_lines(chance, line):
    """Some lines with a word or a sign more, less or otherwise."""
    words = line.split(" ")
    at = chance.randrange(len(words))
    sign = chance.randrange(len(line) + 1)
    other = chance.choice(["a", "0", "1", ".", "(", ")", " ", ":", "-", "\n", "T", "00"])
    return [
        " ".join(words[:at] + words[at + 1:]), " ".join(words[:at] + [words[at]] + words[at:]), line.replace(" ", "  ", 1), line + " ",
        " " + line, line.upper(), line.capitalize(), line + "\n", line[:sign] + line[sign + 1:], line[:sign] + other + line[sign:],
        line[:sign] + other + line[sign + 1:], line.replace("0", "00", 1), line.replace(" 1", " 01", 1),
    ]


class ConsoleTest(unittest.TestCase):
    def test_a_session(self):
        lines = """text/book; bar (1 1)
signs/0
undo/error nothingdone
part a/1
play a 0.1 1.1 tone/4
signs a/4
show a/0-0.1 0.1-1-1.1 1.1-2
book 0:1:1 0:-1:-1 0:1:1/3
show a/0-0.1 0.1-1.1 1.1-2
undo/4
redo/3
alike/0 0.01 0.11
alike 0:1:1/alike
alike 0:-1:-1 0:1:1 0:1:1/alike
fewest ((1 1) 1) 0 2.1/2
fewest 1 0.1 0.1/error badnote
fewest 1 0 1.1/error badpoint
bar 1 ((1 1) 1)/4
show a/0-0.1 0.1-1.1 1.1-2 | 0-3
text/book 0:1:1; bar (1 1); bar ((1 1) 1); part a; 0 rest; 0.1 tone; 1.1 rest; 2 rest
metre 1 (1 1 1)/4
metre 1 (1 1)/error badmetre
metre 2 (1 1)/error badbar
tie a 1.1/error badmoment
cut a 3.011/9
tie a 3.011/4
drop 0/1
drop 0/error badbar
leave b/error nopart
part a/error taken
signs b/error nopart
show b/error nopart
play a 0 999 tone/error badmoment
leave a/0
redo/error nothingdone
signs/0"""
        console = Console()
        pairs = [line.rpartition("/")[::2] for line in lines.split("\n")]
        for line, wanted in pairs:
            self.assertEqual(console.reply(line), wanted, line)
        self.assertEqual(replies("\n".join(line for line, _ in pairs)), [wanted for _, wanted in pairs])
        self.assertEqual(Console().reply(line="text"), "book; bar (1 1)")

    def test_against_the_words(self):
        unknown = wrong = 0
        for seed in range(12):
            chance = Random(seed)
            console, words, ledger = Console(), ByWords(), Ledger([(1, 1)])
            for _ in range(40):
                deed = some_deed(chance, ledger)
                line = line_of(deed)
                self.assertIsNotNone(parts_of(line), line)
                try:
                    ledger.do(deed)
                except Wrong as error:
                    self.assertEqual(console.reply(line), "error " + error.name.lower())
                    words.reply(line)
                    wrong += 1
                else:
                    self.assertEqual(console.reply(line), str(ledger.signs()))
                    words.reply(line)
                for asked in chance.sample(QUESTIONS, 2):
                    self.assertEqual(console.reply(asked), words.reply(asked), asked)
                for other in chance.sample(bent_lines(chance, chance.choice([line] + QUESTIONS)), 3):
                    if parts_of(other) is None:
                        before = console.reply("text")
                        self.assertEqual(console.reply(other), "unknown", other)
                        self.assertEqual(console.reply("text"), before)
                        unknown += 1
            self.assertEqual(console.reply("text"), words.reply("text"))
        self.assertGreater(unknown, 500)
        self.assertGreater(wrong, 50)

    def test_all_bent_lines(self):
        """Lines that are bent, some of which are lines again."""
        again = 0
        chance = Random(5)
        console, words = Console(), ByWords()
        lines = QUESTIONS + ["part a", "play a 0.1 1.1 tone", "cut a 1.011", "bar 1 ((1 1) 1)", "metre 0 (1 1)", "book 0:1:1 1:-1:1", "drop 1", "undo"]
        for _ in range(8):
            for line in lines:
                for other in bent_lines(chance, line):
                    self.assertEqual(console.reply(other), words.reply(other), repr(other))
                    again += parts_of(other) is not None
        self.assertGreater(again, 50)

    def test_words_of_another_form(self):
        console = Console()
        console.reply("part a")
        for line in [
            "", " ", "part", "part A", "part abcdefghi", "part a1", "part a b", "part  a", "part a ", " part a", "Part a", "PART a", "part\na", "parts a",
            "leave", "leave A", "play a 0 1", "play a 0 1 Tone", "play a 0 1 tones", "play a 00 1 tone", "play a 0 01 tone", "play a 0.0 1 tone",
            "play a 0.10 1 tone", "play a 0. 1 tone", "play a .1 1 tone", "play a 0 1000 tone", "play a -1 1 tone", "play a 0 1 tone tone",
            "play A 0 1 tone", "cut a", "cut a 1.2", "cut a 1 1", "tie a x", "bar 0", "bar 00 1", "bar 01 1", "bar 100 1", "bar -1 1", "bar +1 1",
            "bar 0 (1)", "bar 0 (1 1", "bar 0 (1  1)", "bar 0 ( 1 1)", "bar 0 (1 1 )", "bar 0 (1 1 1 1)", "bar 0 2", "bar 0 1 1", "bar 0 (1 1)1",
            "bar (1 1)", "bar 0 " + "(" * 3000, "bar 0 (1 (1 1 1 1))", "drop", "drop a", "drop 00", "drop 0 0", "metre 0", "metre 0 (1, 1)", "metre a (1 1)",
            "book 0:1", "book 0:1:3", "book 0:1:1 ", "book  0:1:1", "book 3:1:1", "book 0:1:1 x", "book 0:01:1", "Book", "undo ", "undo undo", "Undo",
            "redo 1", "signs ", "signs A", "signs a a", "Signs", "show", "show a a", "show A", "fewest 1 0", "fewest 0 1", "fewest (1 1) 0", "fewest (1 1) 0 1 1",
            "fewest (1 1 0 1", "fewest 2 0 1", "fewest (1 1) 0 1.0", "fewest  0 1", "alike 0:1", "alike x", "alike ", "text ", "text a", "Text", "log", "twin", "0",
            "do part a", "replies", "quit", "help",
        ]:
            before = console.reply("text")
            self.assertEqual(console.reply(line), "unknown", line)
            self.assertEqual(console.reply("text"), before)
        self.assertEqual(console.reply("undo"), "0")

    def test_values_that_are_no_strings(self):
        console = Console()
        for thing in OTHERS + [["undo"], ("part", "a"), [], {"text": 1}]:
            if not isinstance(thing, str):
                self.assertEqual(console.reply(thing), "unknown")
        self.assertEqual(console.reply("text"), "book; bar (1 1)")

    def test_all_shapes_are_words(self):
        told = " ".join(":".join(map(str, shape)) for shape in SHAPES)
        console = Console()
        self.assertEqual([console.reply("book " + told), console.reply("alike " + told)], ["0", "alike"])
        self.assertEqual(console.reply("text").split(";")[0], "book " + " ".join(word for word in told.split() if not word.endswith(":-1:-1")))
        self.assertEqual([console.reply("book"), console.reply("text")], ["0", "book; bar (1 1)"])

    def test_the_first_bar_that_parts_two_books(self):
        console = Console()
        console.reply("metre 0 (1 1)")
        console.reply("drop 0")
        for line in ("bar 0 1", "drop 1", "bar 1 1", "bar 2 ((1 1) 1)"):
            console.reply(line)
        # Only the last bar has a sign of this shape.
        metres = [Metre(1), Metre(1), Metre(((1, 1), 1))]
        seen = 0
        for shape in SHAPES:
            told = ":".join(map(str, shape))
            answers = [compare(metre, Book(), metre, Book([shape])) for metre in metres]
            parted = [(index, *answer[1:]) for index, answer in enumerate(answers) if answer[0] == "parted"]
            wanted = "alike" if not parted else " ".join([str(parted[0][0])] + [moment_text(point) for point in parted[0][1:]])
            self.assertEqual(console.reply("alike " + told), wanted)
            seen += bool(parted) and parted[0][0] == 2
        self.assertGreater(seen, 1)

    def test_errors_by_the_names_of_their_classes(self):
        console = Console()
        for name in "abcdefgh":
            console.reply("part " + name)
        self.assertEqual(console.reply("part i"), "error toomany")
        self.assertEqual(console.reply("bar 5 1"), "error badbar")
        self.assertEqual(console.reply("cut a 0"), "error badmoment")
        self.assertEqual(console.reply("play z 0 1 tone"), "error nopart")
        for _ in range(14):
            console.reply("bar 0 " + tree_text(SIXTEEN))
        self.assertEqual(console.reply("bar 0 " + tree_text(SIXTEEN)), "error toomany")
        self.assertEqual(console.reply("signs"), str(8 * 15))
        self.assertTrue(issubclass(errors.TooMany, RhythmError))

    def test_indexes_with_two_digits(self):
        console = Console()
        console.reply("part a")
        self.assertEqual([console.reply("bar 0 1") for _ in range(11)][-1], "12")
        self.assertEqual([console.reply("bar 10 (1 1 1)"), console.reply("metre 10 (1 (1 1))"), console.reply("bar 13 1")], ["13", "13", "14"])
        self.assertEqual([console.reply("bar 99 1"), console.reply("metre 14 1"), console.reply("drop 14")], ["error badbar"] * 3)
        self.assertEqual([console.reply("drop 13"), console.reply("drop 10")], ["13", "12"])
        self.assertEqual(console.reply("text"), "book; " + "bar 1; " * 11 + "bar (1 1); part a; " + " rest; ".join(map(str, range(12))) + " rest")

    def test_consoles_have_scores_of_their_own(self):
        one, other = Console(), Console()
        one.reply("part a")
        self.assertEqual([one.reply("signs"), other.reply("signs")], ["1", "0"])


class RepliesTest(unittest.TestCase):
    def test_with_and_without_a_last_newline(self):
        self.assertEqual(replies("part a\nsigns"), ["1", "1"])
        self.assertEqual(replies("part a\nsigns\n"), ["1", "1"])
        self.assertEqual(replies(text="part a\n\nsigns\n\n"), ["1", "unknown", "1", "unknown"])
        self.assertEqual((replies(""), replies("\n"), replies("\n\n"), replies("text")), ([], ["unknown"], ["unknown"] * 2, ["book; bar (1 1)"]))
        self.assertEqual(replies("undo"), ["error nothingdone"])

    def test_a_new_console_each_time(self):
        self.assertEqual([replies("part a"), replies("part a")], [["1"], ["1"]])
        found = replies("part a")
        found.append("x")
        self.assertEqual(replies("part a"), ["1"])

    def test_no_strings(self):
        for thing in OTHERS + [["undo"], ("undo",)]:
            if not isinstance(thing, str):
                with self.assertRaises(BadText) as caught:
                    replies(thing)
                self.assertEqual(caught.exception.line, 0)


if __name__ == "__main__":
    unittest.main()
