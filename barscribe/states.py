"""States: all that the fewest signs of the notes between two sides depend on, at all depths to come."""

from barscribe.errors import BadState, TooMany
from barscribe.far import moves_of
from barscribe.growing import Growing, ends, grown, moved_side, starts
from barscribe.metres import is_number
from barscribe.tops import DEPTH, Top, top_side

# The words of a move for a side with this word, ascending.
WORDS = {"at": ("stay",), "in": ("left", "middle", "right")}

# From this distance of their numbers on, two sides do not share any place.
FAR = 8


def can_stand(x, y):
    """Whether a point at one side can stand before a point at the other one."""
    return x[1] < y[1] or (x[1] == y[1] and y[0] == "in")


def first_sides(metre):
    """All pairs of sides at depth 2 at which x can stand before y, ascending."""
    last = metre.pulses << DEPTH
    sides = [("at", number) for number in range(last + 1)] + [("in", number) for number in range(last)]
    return [(x, y) for x in sides for y in sides if can_stand(x, y)]


def first_states(metre, book):
    """From each pair of sides at depth 2 to the pair of its state and the level of its table."""
    top = Top(metre, book, metre.pulses << DEPTH)
    return {(x, y): _levelled(x, y, top.signs(x, y)) for x, y in first_sides(metre)}


def _levelled(x, y, table):
    """The state of a table, and the level of the table."""
    level = min([entry for row in table for entry in row if entry is not None], default=0)
    rows = tuple([tuple([None if entry is None else entry - level for entry in row]) for row in table])
    return ((x[0], x[1] % 4), (y[0], y[1] % 4), min(y[1] - x[1], FAR), rows), level


def _placed(x, y, distance):
    """The sides of a state, y with a number that is as far behind that of x as the distance tells."""
    if distance == FAR:
        distance = FAR + (y[1] - x[1]) % 4
    return x, (y[0], x[1] + distance)


def is_state(thing):
    """Whether any value has the form of a state."""
    if not isinstance(thing, tuple) or len(thing) != 4:
        return False
    x, y, distance, table = thing
    return _are_small(x, y, distance) and _is_table(x, y, distance, table)


def is_side(thing):
    """Whether any value is a side."""
    if not isinstance(thing, tuple) or len(thing) != 2:
        return False
    word, number = thing
    return isinstance(word, str) and word in WORDS and is_number(number) and number >= 0


def _are_small(x, y, distance):
    """Whether any values are the sides and the distance of a state."""
    if not is_side(x) or not is_side(y) or not is_number(distance):
        return False
    if x[1] > 3 or y[1] > 3 or distance < 0 or distance > FAR:
        return False
    if distance < FAR and (y[1] - x[1] - distance) % 4 != 0:
        return False
    first, second = _placed(x, y, distance)
    return can_stand(first, second)


def _is_table(x, y, distance, table):
    """Whether any value is the table of a state with these sides and this distance."""
    first, second = _placed(x, y, distance)
    begins = starts(first)
    finishes = ends(second)
    if not isinstance(table, tuple) or len(table) != len(begins):
        return False
    for row in table:
        if not isinstance(row, tuple) or len(row) != len(finishes):
            return False
    for begin, row in zip(begins, table):
        if not all([_is_entry(entry, finish - begin) for entry, finish in zip(row, finishes)]):
            return False
    return min([entry for row in table for entry in row if entry is not None], default=0) == 0


def _is_entry(thing, gap):
    """Whether any value can be the entry for a start and an end that is so far behind it."""
    if gap < 0:
        return thing is None
    return is_number(thing) and (thing == 0 if gap == 0 else thing >= 0)


def moves(state):
    """The possible moves of a state, ascending."""
    if not is_state(state):
        raise BadState("no state")
    x, y, distance, _ = state
    return _possible(x, y, distance)


def _possible(x, y, distance):
    """The possible moves of a state with these sides and this distance, ascending."""
    first, second = _placed(x, y, distance)
    return side_moves(first, second)


def side_moves(x, y):
    """The possible moves of two sides, ascending."""
    found = [(one, other) for one in WORDS[x[0]] for other in WORDS[y[0]]]
    return [move for move in found if can_stand(moved_side(x, move[0]), moved_side(y, move[1]))]


def moved(book, state, move):
    """The pair of the state behind a move, and by how much its level is greater."""
    if move not in moves(state):
        raise BadState("no possible move")
    return _behind(Growing(book), state, move)


def _behind(growing, state, move):
    x, y, distance, table = state
    first, second = _placed(x, y, distance)
    table = grown(growing.options(first, second, move), table)
    return _levelled(moved_side(first, move[0]), moved_side(second, move[1]), table)


def states_of(metre, book, *, most=2000):
    """The list of all states that are reached from first states."""
    machine = Machine(metre, book)
    found = {}
    behind = [state for state, _ in machine.first.values()]
    while behind:
        # Through a dict, so that each state that is new is there once.
        fresh = list({state: True for state in behind if state not in found})
        for state in fresh:
            found[state] = True
        if len(found) > most:
            raise TooMany(most)
        behind = [state for before in fresh for state, _ in machine.behind(before).values()]
    return list(found)


class Machine:
    """The states of a book, from the first ones in a metre on; first is as first_states tells."""

    def __init__(self, metre, book):
        self.first = first_states(metre, book)
        self.growing = Growing(book)
        self.steps = {}
        self.known = {}

    def behind(self, state):
        """From each possible move, ascending, to the state behind it and by how much its level is greater."""
        if state not in self.steps:
            x, y, distance, _ = state
            found = _possible(x, y, distance)
            self.steps[state] = {move: _behind(self.growing, state, move) for move in found}
        return self.steps[state]

    def signs_of(self, x, y):
        """The fewest signs of a note."""
        state, level = self.first[(top_side(x), top_side(y))]
        # What comes on top of a state depends on the digits alone, in whichever pulses the points are.
        key = (state, x[1], y[1])
        if key not in self.known:
            self.known[key] = self._more(state, moves_of(x, y))
        return level + self.known[key]

    def _more(self, state, way):
        """By how much the level is greater behind these moves."""
        total = 0
        for move in way:
            state, more = self.behind(state)[move]
            total = total + more
        return total
