"""The writings of a note: which tuples of points are some, and all of them in order."""

from barscribe.errors import BadNote, BadPoint
from barscribe.metres import dots_of, place_level, place_of, point_of
from barscribe.shapes import place_shape, shape

# The levels of a writing first never grow, and are going down; then they never fall, and are going up.
DOWN = 0
UP = 1


def check_note(metre, x, y):
    """Raises the error of the first thing for which x and y are not the ends of a note."""
    for point in (x, y):
        if not metre.is_point(point):
            raise BadPoint(point)
    if not x < y:
        raise BadNote("a note begins before its end")


def phase_behind(metre, phase, here, there):
    """The phase behind a sign from the level here to the level there; None if no writing has it in this phase."""
    if there > here:
        return UP
    if there == here and here <= metre.depth:
        return phase
    if phase == UP:
        return None
    if there < here:
        return DOWN
    # A common level below that of the pulses is the strongest one of its writing: from here on only up.
    return UP


def is_cut_bar(metre, x, y):
    """Whether a note fills the bar, and the length of the bar is not a value."""
    return x == (0, "") and y == (metre.pulses, "") and dots_of(metre.pulses) is None


def cut_bar(metre):
    """The ends of the bar and the points between the children of the root."""
    return tuple([(pulse, "") for pulse in range(metre.pulses + 1) if metre.borders[pulse] <= 1])


def is_writing(metre, book, thing):
    """Whether any value is a writing of some note."""
    if not isinstance(thing, tuple) or len(thing) < 2:
        return False
    if not all([metre.is_point(point) for point in thing]):
        return False
    if is_cut_bar(metre, thing[0], thing[-1]):
        return thing == cut_bar(metre)
    phase = DOWN
    for x, y in zip(thing, thing[1:]):
        if shape(metre, x, y) not in book:
            return False
        phase = phase_behind(metre, phase, metre.level(x), metre.level(y))
        if phase is None:
            return False
    return True


def places_behind(metre, book, depth, place, last):
    """The places of a depth, up to last, to which a sign of the book leads from this place, ascending."""
    found = []
    for length in value_lengths(last - place):
        if place_shape(metre, depth, place, place + length) in book:
            found.append(place + length)
    return found


def value_lengths(most):
    """The values from 1 to a greatest one, ascending, in a unit that is the smallest distance."""
    found = []
    power = 1
    while power <= most:
        found.extend([odd * power for odd in (1, 3, 7) if odd * power <= most])
        power = 2 * power
    return sorted(found)


def _ways(metre, book, depth, first, last):
    """For each place and phase from which last is reached: the next places and phases on the way, descending."""
    ways = {(last, DOWN): [], (last, UP): []}
    for place in range(last - 1, first - 1, -1):
        here = place_level(metre, depth, place)
        others = places_behind(metre, book, depth, place, last)
        steps = [(other, place_level(metre, depth, other)) for other in reversed(others)]
        for phase in (DOWN, UP):
            behind = [(other, phase_behind(metre, phase, here, level)) for other, level in steps]
            leading = [key for key in behind if key in ways]
            if leading:
                ways[(place, phase)] = leading
    return ways


def writings(metre, book, x, y):
    """All writings of a note, ascending."""
    check_note(metre, x, y)
    if is_cut_bar(metre, x, y):
        yield cut_bar(metre)
        return
    depth = max(len(x[1]), len(y[1]))
    first = place_of(x, depth)
    last = place_of(y, depth)
    ways = _ways(metre, book, depth, first, last)
    points = [x]
    # For each of the points the ways from there that were not yet gone, the next one at the end.
    open_ways = [list(ways[(first, DOWN)])]
    while open_ways:
        if not open_ways[-1]:
            open_ways.pop()
            points.pop()
            continue
        place, phase = open_ways[-1].pop()
        points.append(point_of(place, depth))
        open_ways.append(list(ways[(place, phase)]))
        if place == last:
            yield tuple(points)
