"""Metres: trees of pulses, and the points of a bar with their levels."""

from barscribe.errors import BadMetre, BadPoint

MOST_PULSES = 16
MOST_DEEP = 4

# A value is one of these odd numbers times a power of two, and has so many dots.
DOTS = {1: 0, 3: 1, 7: 2}


def is_number(thing):
    """Whether any value is an integer; a bool is none."""
    return isinstance(thing, int) and not isinstance(thing, bool)


def dots_of(length):
    """The dots of a length above 0, in any unit that is a power of two; None if it is no value."""
    odd = length >> ((length & -length).bit_length() - 1)
    return DOTS.get(odd)


def is_tree(thing):
    """Whether any value is the tree of a metre."""
    return 1 <= _pulses(thing, 0) <= MOST_PULSES


def _pulses(thing, depth):
    """The number of pulses of a tree that begins at this depth; 0 if it has not the form of one."""
    if is_number(thing) and thing == 1:
        return 1
    if depth == MOST_DEEP or not isinstance(thing, tuple) or len(thing) not in (2, 3):
        return 0
    parts = [_pulses(child, depth + 1) for child in thing]
    total = sum(parts)
    if 0 in parts or (depth > 0 and dots_of(total) is None):
        return 0
    return total


def _nodes(tree, begin, depth):
    """The triples (begin, end, depth) of a tree that begins at this pulse and depth, itself first."""
    if tree == 1:
        return [(begin, begin + 1, depth)]
    inner = []
    end = begin
    for child in tree:
        below = _nodes(child, end, depth + 1)
        inner.extend(below)
        end = below[0][1]
    return [(begin, end, depth)] + inner


def _borders(tree):
    """The level of the begin of each pulse, and of the end of the bar."""
    nodes = _nodes(tree, 0, 0)
    levels = {}
    for begin, _, depth in nodes:
        # The first node that begins there is a later child, and so as deep as the level between children.
        levels.setdefault(begin, depth)
    return tuple([levels[pulse] for pulse in range(nodes[0][1])] + [0])


class Metre:
    """A metre, told by its tree; borders are the levels of the points without bits."""

    def __init__(self, tree):
        if not is_tree(tree):
            raise BadMetre("a metre is told by a tree")
        self.tree = tree
        self.borders = _borders(tree)
        self.pulses = len(self.borders) - 1
        self.depth = max(self.borders)

    def __eq__(self, other):
        return isinstance(other, Metre) and self.tree == other.tree

    def is_point(self, thing):
        """Whether any value is a point of the bar."""
        if not isinstance(thing, tuple) or len(thing) != 2:
            return False
        pulse, bits = thing
        if not is_number(pulse) or not is_bits(bits):
            return False
        return 0 <= pulse < self.pulses or (pulse == self.pulses and bits == "")

    def level(self, point):
        """The level of a point of the bar."""
        if not self.is_point(point):
            raise BadPoint(point)
        pulse, bits = point
        if bits == "":
            return self.borders[pulse]
        return self.depth + len(bits)

    def nodes(self):
        """The triples (begin, end, depth) of all nodes and pulses, each before what it contains."""
        return _nodes(self.tree, 0, 0)


def is_bits(thing):
    """Whether any value is a binary fraction of a pulse, without zeros at its end."""
    if not isinstance(thing, str) or thing.strip("01") != "":
        return False
    return thing == "" or thing.endswith("1")


def place_of(point, depth):
    """The number of a point among the places of a depth, at which it is one."""
    pulse, bits = point
    if bits == "":
        return pulse << depth
    return (pulse << depth) + (int(bits, 2) << (depth - len(bits)))


def point_of(place, depth):
    """The point that is this place of a depth."""
    pulse = place >> depth
    rest = place - (pulse << depth)
    digits = f"{rest:b}"
    return (pulse, digits.zfill(depth).rstrip("0"))


def place_level(metre, depth, place):
    """The level of a place of a depth."""
    pulse = place >> depth
    if pulse << depth == place:
        return metre.borders[pulse]
    return metre.depth + depth + 1 - (place & -place).bit_length()
