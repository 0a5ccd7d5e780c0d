"""A console: lines that tell deeds and questions, and what is answered."""

from barscribe.alike import compare
from barscribe.errors import BadText, RhythmError
from barscribe.far import fewest
from barscribe.metres import Metre
from barscribe.rhythms import is_sound
from barscribe.scores import Score, is_name
from barscribe.shapes import Book
from barscribe.texts import moment_in, moment_text, number_in, score_text, shape_in, tree_in

UNKNOWN = "unknown"
MOST_DIGITS = 2

# For each word of a deed, but book, what its parts are.
DEEDS = {
    "part": ("name",), "leave": ("name",), "play": ("name", "moment", "moment", "sound"), "cut": ("name", "moment"),
    "tie": ("name", "moment"), "bar": ("index", "tree"), "drop": ("index",), "metre": ("index", "tree"), "undo": (),
    "redo": (),
}


def _value(kind, text):
    """What a text writes that is a part of this kind; None if it writes none."""
    if kind == "name":
        return text if is_name(text) else None
    if kind == "sound":
        return text if is_sound(text) else None
    if kind == "index":
        return number_in(text, MOST_DIGITS)
    return tree_in(text) if kind == "tree" else moment_in(text)


def _values(kinds, words):
    """The list of what words write that are parts of these kinds; None if they write none."""
    if "tree" in kinds:
        # A tree takes all the words that the other parts leave.
        at = kinds.index("tree")
        end = len(words) - len(kinds) + at + 1
        words = words[:at] + [" ".join(words[at:end])] + words[end:]
    if len(words) != len(kinds):
        return None
    found = [_value(kind, text) for kind, text in zip(kinds, words)]
    return None if None in found else found


def _shapes(words):
    """The list of the shapes that words write; None if one of them writes none."""
    found = [shape_in(word) for word in words]
    return None if None in found else found


def _deed(word, words):
    """The deed that a word and the words behind it tell; None if they tell none."""
    if word == "book":
        shapes = _shapes(words)
        return None if shapes is None else ("book", shapes)
    if word not in DEEDS:
        return None
    parts = _values(DEEDS[word], words)
    return None if parts is None else (word, *parts)


def _signs(score, words):
    if not words:
        return f"{score.signs()}"
    parts = _values(("name",), words)
    return None if parts is None else f"{score.signs(parts[0])}"


def _show(score, words):
    parts = _values(("name",), words)
    if parts is None:
        return None
    bars = [[points for _, points in bar] for bar in score.written(parts[0])]
    return " | ".join([" ".join([_writing_text(points) for points in bar]) for bar in bars])


def _writing_text(points):
    return "-".join([moment_text(point) for point in points])


def _fewest(score, words):
    parts = _values(("tree", "moment", "moment"), words)
    if parts is None:
        return None
    tree, x, y = parts
    return f"{fewest(Metre(tree), score.book, x, y)}"


def _alike(score, words):
    shapes = _shapes(words)
    if shapes is None:
        return None
    other = Book(shapes)
    seen = []
    for index, metre in enumerate(score.bars):
        if metre.tree not in seen:
            seen.append(metre.tree)
            answer = compare(metre, score.book, metre, other)
            if answer[0] == "parted":
                return f"{index} {moment_text(answer[1])} {moment_text(answer[2])}"
    return "alike"


def _text(score, words):
    return None if words else "; ".join(score_text(score).split("\n")[:-1])


# For each word of a question what answers it: a text, or None if the words behind it have not its form.
QUESTIONS = {"signs": _signs, "show": _show, "fewest": _fewest, "alike": _alike, "text": _text}


class Console:
    """A console with a score."""

    def __init__(self):
        self.score = Score([Metre((1, 1))], Book())

    def reply(self, line):
        """What is answered to a line; any value may be one."""
        if not isinstance(line, str):
            return UNKNOWN
        words = line.split(" ")
        try:
            answer = self._answer(words[0], words[1:])
        except RhythmError as why:
            return "error " + type(why).__name__.lower()
        return UNKNOWN if answer is None else answer

    def _answer(self, word, words):
        """The answer to a word and the words behind it; None if they are no line of a console."""
        if word in QUESTIONS:
            asked = QUESTIONS[word]
            return asked(self.score, words)
        deed = _deed(word, words)
        return None if deed is None else f"{self.score.do(deed)}"


def replies(text):
    """The list of what a new console answers to the lines of a text."""
    if not isinstance(text, str):
        raise BadText(0)
    lines = text.split("\n")
    # Behind a last newline, and in the empty string, there is no line.
    if lines[-1] == "":
        lines.pop()
    console = Console()
    return [console.reply(line) for line in lines]
