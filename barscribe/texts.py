"""Texts of trees, moments, books and scores, and what they write."""

from barscribe.errors import BadBook, BadMetre, BadMoment, BadScore, BadText, TooMany
from barscribe.metres import MOST_DEEP, Metre, is_bits, is_number, is_tree
from barscribe.rhythms import Rhythm, is_sound
from barscribe.scores import MOST_PARTS, Score, is_name, score_of
from barscribe.shapes import Book, is_shape

MOST_DIGITS = 3
MOST_NUMBER = 999
DIGITS = "0123456789"

# The numbers that can stand in a shape.
NUMBERS = {"-1": -1, "0": 0, "1": 1, "2": 2}

BEGIN = (0, "")


def tree_text(tree):
    """The text of a tree."""
    if not is_tree(tree):
        raise BadMetre("no tree of a metre")
    return _tree_text(tree)


def _tree_text(tree):
    if tree == 1:
        return "1"
    return "(" + " ".join([_tree_text(child) for child in tree]) + ")"


def moment_text(moment):
    """The text of a moment or a point."""
    if not isinstance(moment, tuple) or len(moment) != 2:
        raise BadMoment(moment)
    pulse, bits = moment
    if not is_number(pulse) or not 0 <= pulse <= MOST_NUMBER or not is_bits(bits):
        raise BadMoment(moment)
    return f"{pulse}.{bits}" if bits != "" else f"{pulse}"


def _shape_text(shape):
    return ":".join([str(number) for number in shape])


def book_text(book):
    """The text of a book: that of its shapes that are not plain."""
    if not isinstance(book, Book):
        raise BadBook(0)
    return " ".join([_shape_text(shape) for shape in book.extra])


def score_text(score):
    """The lines of a score."""
    if not isinstance(score, Score):
        raise BadScore("no score")
    lines = [" ".join(["book"] + [_shape_text(shape) for shape in score.book.extra])]
    lines.extend(["bar " + tree_text(metre.tree) for metre in score.bars])
    for name in score.names:
        lines.append("part " + name)
        lines.extend([moment_text(moment) + " " + sound for moment, sound in score.rhythm(name).notes])
    return "".join([line + "\n" for line in lines])


def number_in(text, most):
    """The number that a text of at most so many digits writes; None if it writes none."""
    if not 1 <= len(text) <= most or text.strip(DIGITS) != "":
        return None
    if text.startswith("0") and text != "0":
        return None
    return int(text)


def moment_in(text):
    """The moment or point that a text writes; None if it writes none."""
    number, dot, bits = text.partition(".")
    pulse = number_in(number, MOST_DIGITS)
    if pulse is None or not is_bits(bits) or (dot != "" and bits == ""):
        return None
    return (pulse, bits)


def shape_in(text):
    """The shape that a text writes; None if it writes none."""
    words = text.split(":")
    if not all([word in NUMBERS for word in words]):
        return None
    shape = tuple([NUMBERS[word] for word in words])
    return shape if is_shape(shape) else None


def tree_in(text):
    """The tree that a text writes; None if it writes none."""
    tree, end = _tree_at(text, 0, 0)
    if tree is None or end != len(text) or not is_tree(tree):
        return None
    return tree


def _tree_at(text, begin, depth):
    """The tree of this depth that a text writes from an index on, and the index behind it; None if it writes none."""
    if text.startswith("1", begin):
        return 1, begin + 1
    if not text.startswith("(", begin) or depth == MOST_DEEP:
        return None, begin
    children = []
    at = begin
    while len(children) == 0 or text.startswith(" ", at):
        child, at = _tree_at(text, at + 1, depth + 1)
        if child is None:
            return None, begin
        children.append(child)
    if not text.startswith(")", at):
        return None, begin
    return tuple(children), at + 1


def book_in(text):
    """The book that a text writes; None if it writes none."""
    if text == "":
        return Book()
    shapes = [shape_in(word) for word in text.split(" ")]
    if None in shapes:
        return None
    book = Book(shapes)
    return book if list(book.extra) == shapes else None


def _found(thing):
    """What a text writes, if it writes something."""
    if thing is None:
        raise BadText(0)
    return thing


def _checked(text):
    """A text, if it is one."""
    if not isinstance(text, str):
        raise BadText(0)
    return text


def read_tree(text):
    """The tree that a text writes."""
    return _found(tree_in(_checked(text)))


def read_moment(text):
    """The moment or point that a text writes."""
    return _found(moment_in(_checked(text)))


def read_book(text):
    """The book that a text writes."""
    return _found(book_in(_checked(text)))


def read_score(text):
    """The Score that lines write."""
    lines = _checked(text).split("\n")
    # Behind the last newline there is nothing.
    whole = lines[-1] == ""
    if whole:
        lines.pop()
    reader = Reader()
    for number, line in enumerate(lines):
        if not reader.takes(line):
            raise BadText(number)
    if not whole or not reader.is_done():
        raise BadText(len(lines))
    return reader.finished()


class Reader:
    """The lines of a score, one after another; parts has a pair of a name and a list of notes for each part."""

    def __init__(self):
        self.book = None
        self.bars = []
        self.parts = []

    def takes(self, line):
        """Whether a line has the form of one that may stand there; if so, it is kept."""
        word, _, rest = line.partition(" ")
        if self.book is None:
            return self._takes_book(line)
        if word == "bar":
            return self._takes_bar(rest)
        if word == "part":
            return self._takes_part(rest)
        return self._takes_note(word, rest)

    def is_done(self):
        """Whether the lines may end there."""
        return self._may_end_part() and len(self.bars) > 0

    def _may_end_part(self):
        """Whether the part that was begun last, if there is one, has a note."""
        return not self.parts or len(self.parts[-1][1]) > 0

    def _takes_book(self, line):
        if line == "book":
            self.book = Book()
        elif line.startswith("book ") and line != "book ":
            self.book = book_in(line[5:])
        return self.book is not None

    def _takes_bar(self, text):
        tree = tree_in(text)
        if tree is None or self.parts:
            return False
        self.bars.append(Metre(tree))
        return True

    def _takes_part(self, name):
        if not is_name(name) or not self.is_done():
            return False
        if self.parts and name <= self.parts[-1][0]:
            return False
        self.parts.append((name, []))
        return True

    def _takes_note(self, text, sound):
        moment = moment_in(text)
        if not self.parts or moment is None or not is_sound(sound):
            return False
        notes = self.parts[-1][1]
        follows = moment > notes[-1][0] if notes else moment == BEGIN
        if follows:
            notes.append((moment, sound))
        return follows

    def finished(self):
        """The Score of these lines."""
        plain = Score(self.bars, self.book)
        if len(self.parts) > MOST_PARTS:
            raise TooMany(MOST_PARTS)
        length = sum([metre.pulses for metre in self.bars])
        return score_of(plain.bars, plain.book, {name: Rhythm(length, notes) for name, notes in self.parts})
