"""Deeds of all kinds, for tests of scores."""

from tests.notes import digits
from tests.values import CUT, EXTRA, OTHERS, SHAPES, TREES

NAMES = ["a", "b", "cello", "violinas"]

SAME = {2: [(1, 1)], 3: [(1, 1, 1), (1, (1, 1)), ((1, 1), 1)], 4: [((1, 1), (1, 1)), (1, (1, 1), 1), (1, 1, (1, 1))]}


def some_moment(chance, length, bits=3):
    return (chance.randrange(length + 1), digits(chance, chance.randrange(bits + 1)))


def some_deed(chance, ledger):
    """A deed that can often be done."""
    length, many = ledger.length, len(ledger.trees)
    name = chance.choice(list(ledger.parts) or NAMES) if chance.random() < 0.9 else chance.choice(NAMES)
    word = chance.choice(["part", "leave", "cut", "tie", "bar", "drop", "metre", "book"] + ["play"] * 6 + ["undo", "undo", "redo"])
    if word == "part":
        return (word, chance.choice(NAMES))
    if word == "leave":
        return (word, name if chance.random() < 0.3 else "z")
    if word == "play":
        begin, end = sorted(some_moment(chance, length) for _ in "xy")
        return (word, name, begin, end, chance.choice(["tone", "rest"]))
    if word in ("cut", "tie"):
        begins = [note[0] for note in ledger.rhythm(name).notes] if name in ledger.parts else []
        return (word, name, chance.choice(begins + [some_moment(chance, length)] * 2))
    if word == "bar":
        return (word, chance.randrange(many + 1), chance.choice(TREES[:8] + CUT[:1])) if many < 6 else ("drop", chance.randrange(many))
    if word == "drop":
        return (word, chance.randrange(many))
    if word == "metre":
        trees = [tree for trees in SAME.values() for tree in trees]
        return (word, chance.randrange(many), chance.choice(trees))
    if word == "book":
        shapes = chance.sample(SHAPES, chance.randrange(5)) + chance.sample(EXTRA, chance.randrange(4))
        return (word, shapes if chance.random() < 0.7 else tuple(shapes))
    return (word,)


def bent_deed(chance, deed):
    """A deed with one of its parts changed, left out or put in, or another value."""
    kind = chance.randrange(8)
    if kind == 0:
        return chance.choice(OTHERS)
    if kind == 1:
        return list(deed)
    if kind == 2:
        return deed[:-1]
    if kind == 3:
        return (*deed, chance.choice(OTHERS))
    at = chance.randrange(len(deed))
    others = OTHERS + [(0, ""), (1, ""), (1, "10"), (300, ""), (0, "2"), "tone", "Rest", "", "A", "abcdefghi", "a1", 3, (1, 1), (1, 1, 1, 1)]
    return deed[:at] + (chance.choice(others),) + deed[at + 1:]
