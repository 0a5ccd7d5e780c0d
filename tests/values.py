"""Values of all kinds, for parameters that take any value, and metres and books for many tests."""

from random import Random

from barscribe.errors import BadPoint
from barscribe.metres import Metre
from barscribe.shapes import Book

NEST = ()
for _ in range(19):
    NEST = (NEST,)

OTHERS = [
    None, True, False, 0, 1, 2, -1, 10 ** 60, "", "1", "(1, 1)", "0", [], (), {}, [1, 1], {1: 1}, (1,), (0,), (None, None),
    ("0", ""), (0, 0), (0, None), (0, [""]), [(0, "")], ((0, ""),), {0: ""}, (0, "", ""), NEST, [[[]]], (1, [1, 1]),
    ({}, {}), (0, -1), [0, -1, -1], (0, -1, -1, -1), (0, -1, "1"), (None, -1, -1), Metre(1), Book(), BadPoint(1),
]

SIXTEEN = ((((1, 1), (1, 1)), ((1, 1), (1, 1))), (((1, 1), (1, 1)), ((1, 1), (1, 1))))

TREES = [
    1, (1, 1), (1, 1, 1), ((1, 1), (1, 1)), ((1, 1, 1), (1, 1, 1)), ((1, 1), 1), (1, (1, (1, 1))), ((1, 1), (1, 1, 1)),
    ((1, 1), (1, 1), (1, 1, 1)), ((1, (1, 1)), 1, ((1, 1), (1, 1))),
]

# The numbers of pulses of these are no values: 5, 5, 9, 10, 11, 13, 13 and 15.
CUT = [
    ((1, 1), (1, 1, 1)), (1, (1, 1), (1, 1)), ((1, 1, 1), (1, 1, 1), (1, 1, 1)),
    (((1, 1), (1, 1)), ((1, 1, 1), (1, 1, 1))), (((1, 1), (1, 1)), ((1, 1), (1, 1)), (1, 1, 1)),
    (((1, 1, 1), (1, 1, 1)), ((1, 1), (1, 1)), (1, 1, 1)), (1, (((1, 1), (1, 1)), ((1, 1), (1, 1)), ((1, 1), (1, 1)))),
    (((1, 1), (1, 1)), ((1, 1), (1, 1)), ((1, 1, 1), ((1, 1), (1, 1)))),
]

SHAPES = [(dots, s, t) for dots in range(3) for s in range(-1, 3) for t in range(-1, 3)]
EXTRA = [shape for shape in SHAPES if shape[1:] != (-1, -1)]
# Those that occur within a pulse; the others occur between pulses only, or nowhere.
DEEP = [(0, 1, 1), (0, 2, 2), (1, -1, 1), (1, 1, -1), (1, 1, 2), (1, 2, 1), (1, 2, 2), (2, -1, 2), (2, 2, -1)]


def some_books(many, seed):
    """The plain book, the book of all shapes, and so many others, always the same ones."""
    chance = Random(seed)
    sizes = [1, 2, 4, 8, 16, 32]
    return [Book(), Book.every()] + [Book(chance.sample(EXTRA, sizes[at % len(sizes)])) for at in range(many)]
