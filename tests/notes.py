"""Notes, sides and tables for many tests, by the words of the document."""

from barscribe.far import fewest
from barscribe.metres import point_of
from barscribe.shapes import Book
from tests.values import EXTRA

WORDS = {"at": ["stay"], "in": ["left", "middle", "right"]}
NEW = {"stay": ("at", 0), "left": ("in", 0), "middle": ("at", 1), "right": ("in", 1)}


def digits(chance, many):
    return "".join(chance.choice("01") for _ in range(many - 1)) + "1" if many else ""


def chosen_book(chance, most=40):
    return chance.choice([Book(), Book.every(), Book(chance.sample(EXTRA, chance.randrange(1, most)))])


def small_book(chance, most):
    return Book(chance.sample(EXTRA, chance.randrange(most + 1)))


def all_points(metre, depth):
    """All points with at most so many bits, ascending."""
    return [point_of(place, depth) for place in range((metre.pulses << depth) + 1)]


def all_notes(metre, depth):
    points = all_points(metre, depth)
    return [(x, y) for at, x in enumerate(points) for y in points[at + 1:]]


def order_of(note):
    """The order of notes of point 14."""
    x, y = note
    return (max(2, len(x[1]), len(y[1])), x, y)


def notes_in_order(metre, depth):
    return sorted(all_notes(metre, depth), key=order_of)


def some_note(chance, metre, bits):
    """A note with points of at most so many bits."""
    while True:
        points = {(chance.randrange(metre.pulses), digits(chance, chance.randrange(bits + 1))) for _ in "xy"}
        points = sorted(points | ({(metre.pulses, "")} if chance.random() < 0.1 else set()))
        if len(points) > 1:
            return points[0], points[-1]


def can_stand(x, y):
    return x[1] < y[1] or (x[1] == y[1] and y[0] == "in")


def all_sides(metre):
    """All pairs of sides at depth 2 at which x can stand before y."""
    sides = [("at", number) for number in range(4 * metre.pulses + 1)]
    sides += [("in", number) for number in range(4 * metre.pulses)]
    return [(x, y) for x in sides for y in sides if can_stand(x, y)]


def starts(side):
    if side[0] == "at":
        return [side[1]]
    found = [side[1] + 1]
    while found[-1] % 4:
        found.append(found[-1] + 1)
    return found


def ends(side):
    found = [side[1]]
    while side[0] == "in" and found[-1] % 4:
        found.append(found[-1] - 1)
    return found


def entry_of(metre, book, depth, start, end):
    if start >= end:
        return 0 if start == end else None
    return fewest(metre, book, point_of(start, depth), point_of(end, depth))


def state_by_notes(metre, book, depth, x, y):
    """The state of point 12 and the level of its table, each entry as a note of its own."""
    table = [[entry_of(metre, book, depth, start, end) for end in ends(y)] for start in starts(x)]
    level = min([entry for row in table for entry in row if entry is not None], default=0)
    rows = tuple(tuple(entry if entry is None else entry - level for entry in row) for row in table)
    return ((x[0], x[1] % 4), (y[0], y[1] % 4), min(8, y[1] - x[1]), rows), level


def next_sides(x, y, move):
    """The sides behind a move."""
    return tuple((NEW[word][0], 2 * side[1] + NEW[word][1]) for side, word in zip((x, y), move))


def possible_moves(x, y):
    """The possible moves of two sides, ascending."""
    found = [(one, other) for one in WORDS[x[0]] for other in WORDS[y[0]]]
    return [move for move in found if can_stand(*next_sides(x, y, move))]


def side_of(point):
    """The side at depth 2 of a point."""
    pulse, bits = point
    number = 4 * pulse + int((bits + "00")[:2], 2)
    return ("at" if len(bits) < 3 else "in", number)


def words_of(point, depth):
    """The words that lead from the side at depth 2 of a point to the point, at this depth."""
    bits, found = point[1], []
    for at in range(2, depth):
        if at >= len(bits):
            found.append("stay")
        elif at == len(bits) - 1:
            found.append("middle")
        else:
            found.append("left" if bits[at] == "0" else "right")
    return found


def way_of(x, y):
    """The moves that lead from the sides at depth 2 of a note to the note."""
    depth = max(2, len(x[1]), len(y[1]))
    return list(zip(words_of(x, depth), words_of(y, depth)))


def with_each_bent(thing, others):
    """A tuple with one of its parts, at any level, replaced by each of the others."""
    for other in others:
        yield other
    if isinstance(thing, tuple):
        for at, part in enumerate(thing):
            for bent in with_each_bent(part, others):
                yield thing[:at] + (bent,) + thing[at + 1:]


def as_lists(thing):
    """A tuple with each one of the tuples in it, and itself, as a list."""
    if isinstance(thing, tuple):
        yield list(thing)
        for at, part in enumerate(thing):
            for bent in as_lists(part):
                yield thing[:at] + (bent,) + thing[at + 1:]
