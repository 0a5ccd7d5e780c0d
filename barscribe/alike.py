"""Two books, or one in two metres, side by side: whether all notes have equally many signs in both."""

from barscribe.errors import BadMetre, BadState, TooMany
from barscribe.growing import moved_side
from barscribe.metres import is_number, point_of
from barscribe.states import Machine, is_state, moved
from barscribe.tops import DEPTH


def check_metres(metre, other_metre):
    """Raises an error if two metres have different numbers of pulses."""
    if metre.pulses != other_metre.pulses:
        raise BadMetre("the metres have different numbers of pulses")


def compare(metre, book, other_metre, other_book, *, most=5000):
    """Either a closed list of pairs, or the least note that has not equally many signs in both."""
    check_metres(metre, other_metre)
    return compared(Machine(metre, book), Machine(other_metre, other_book), most)


def compared(one, other, most):
    """What compare tells of two machines."""
    couple = Couple(one, other)
    reached = {}
    depth = DEPTH
    fresh = _least_first(couple)
    while fresh:
        parting = [places for pair, places in fresh.items() if _parts(pair)]
        if parting:
            first, last = min(parting)
            return ("parted", point_of(first, depth), point_of(last, depth))
        for pair in fresh:
            reached[pair] = True
        if len(reached) > most:
            raise TooMany(most)
        fresh = _least_behind(couple, fresh, reached)
        depth = depth + 1
    return ("alike", list(reached))


def _least_first(couple):
    """From each first pair to the least numbers of sides that have it."""
    found = {}
    for (x, y), pair in couple.first_pairs().items():
        _keep_least(found, pair, (x[1], y[1]))
    return found


def _least_behind(couple, fresh, reached):
    """From each pair behind the fresh ones that was not reached before to the least numbers of sides that have it.

    Sides with lesser numbers stay the lesser ones behind equal moves; so the least ones of each pair are enough.
    """
    found = {}
    for pair, (first, last) in fresh.items():
        for move, behind in couple.pairs_behind(pair):
            if behind not in reached:
                x = moved_side((pair[0][0], first), move[0])
                y = moved_side((pair[1][0], last), move[1])
                _keep_least(found, behind, (x[1], y[1]))
    return found


def _keep_least(found, pair, places):
    if pair not in found or places < found[pair]:
        found[pair] = places


def is_pair(thing):
    """Whether any value has the form of a pair."""
    if not isinstance(thing, tuple) or len(thing) != 6:
        return False
    return is_bare_pair(thing[:5]) and is_number(thing[5])


def is_bare_pair(thing):
    """Whether any value has the form of a pair without its difference."""
    if not isinstance(thing, tuple) or len(thing) != 5:
        return False
    return is_state(thing[:4]) and is_state(_other_state(thing))


def _other_state(pair):
    """The state of the second book."""
    return pair[:3] + (pair[4],)


def first_pairs(metre, book, other_metre, other_book):
    """From each pair of sides at depth 2 to its pair."""
    check_metres(metre, other_metre)
    return Couple(Machine(metre, book), Machine(other_metre, other_book)).first_pairs()


def moved_pair(book, other_book, pair, move):
    """The pair behind a move."""
    if not is_pair(pair):
        raise BadState("no pair")
    state, more = moved(book, pair[:4], move)
    other, less = moved(other_book, _other_state(pair), move)
    return state + (other[3], pair[5] + more - less)


def verdict(pair):
    """The number of signs of the note in the first less that in the second; None if a side is not at a place."""
    if not is_pair(pair):
        raise BadState("no pair")
    gain = gain_of(pair)
    return None if gain is None else gain + pair[5]


def gain_of(pair):
    """The verdict with the difference 0, of a pair or a bare pair."""
    x, y, _, table, other = pair[:5]
    if x[0] == "in" or y[0] == "in":
        return None
    return table[0][0] - other[0][0]


def _parts(pair):
    """Whether the verdict of a pair is a number other than 0."""
    gain = gain_of(pair)
    return gain is not None and gain + pair[5] != 0


def is_closed(metre, book, other_metre, other_book, thing):
    """Whether any value is a closed list of pairs."""
    check_metres(metre, other_metre)
    if not isinstance(thing, (list, tuple)) or not all([is_pair(item) for item in thing]):
        return False
    held = {pair: True for pair in thing}
    couple = Couple(Machine(metre, book), Machine(other_metre, other_book))
    if not all([pair in held for pair in couple.first_pairs().values()]):
        return False
    for pair in held:
        if _parts(pair) or not all([behind in held for _, behind in couple.pairs_behind(pair)]):
            return False
    return True


class Couple:
    """Two machines side by side, in metres with equally many pulses."""

    def __init__(self, one, other):
        self.one = one
        self.other = other

    def first_pairs(self):
        """From each pair of sides at depth 2, ascending, to its pair."""
        found = {}
        for sides, (state, level) in self.one.first.items():
            other, other_level = self.other.first[sides]
            found[sides] = state + (other[3], level - other_level)
        return found

    def behind(self, bare):
        """From each possible move of a bare pair, ascending, to the bare pair behind it and the weight."""
        others = self.other.behind(_other_state(bare))
        found = {}
        for move, (state, more) in self.one.behind(bare[:4]).items():
            other, less = others[move]
            found[move] = (state + (other[3],), more - less)
        return found

    def pairs_behind(self, pair):
        """The list of each possible move of a pair with the pair behind it."""
        return [(move, bare + (pair[5] + weight,)) for move, (bare, weight) in self.behind(pair[:5]).items()]
