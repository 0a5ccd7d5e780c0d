"""Losses: by how much the signs of notes in one book are more than in another one, over all notes."""

from barscribe.alike import Couple, check_metres, gain_of, is_bare_pair
from barscribe.errors import BadCount, BadFamily, TooMany
from barscribe.far import fewest
from barscribe.growing import moved_side, small_sides
from barscribe.metres import is_number, point_of
from barscribe.states import Machine, can_stand, is_side, side_moves
from barscribe.tops import DEPTH
from barscribe.writings import check_note

MOST_COUNT = 500

# The digit that a word adds to a point.
DIGITS = {"stay": "", "left": "0", "middle": "1", "right": "1"}

# The word that leads a side with this word to a place.
TO_PLACE = {"at": "stay", "in": "middle"}


def loss(metre, book, other_metre, other_book, x, y):
    """The number of signs of a note in the first book less that in the second one."""
    check_metres(metre, other_metre)
    check_note(metre, x, y)
    return fewest(metre, book, x, y) - fewest(other_metre, other_book, x, y)


def greatest_loss(metre, book, other_metre, other_book, *, most=5000):
    """The greatest loss with a note that has it and potentials, or a family that rises."""
    check_metres(metre, other_metre)
    climb = Climb(Couple(Machine(metre, book), Machine(other_metre, other_book)))
    fresh = climb.begun()
    while fresh:
        bare = climb.on_a_ring()
        if bare is not None:
            return ("rising", climb.family(bare))
        if len(climb.heights) > most:
            raise TooMany(most)
        fresh = climb.raised(fresh)
    height, bare = climb.peak()
    sides, *way = _way(climb.before, bare, None)
    x, y = _note(sides, way)
    return ("greatest", height, x, y, {key: climb.heights[key] for key in sorted(list(climb.heights))})


class Climb:
    """The greatest differences of bare pairs, over ever more walks that lead to them.

    before tells how a bare pair was reached with its greatest difference, origins how it was reached at first:
    a pair of the bare pair before it and the move, or of None and the sides at depth 2.
    """

    def __init__(self, couple):
        self.couple = couple
        self.heights = {}
        self.before = {}
        self.origins = {}

    def begun(self):
        """Enters the first bare pairs, and returns them."""
        fresh = {}
        for sides, pair in self.couple.first_pairs().items():
            self._enter(fresh, pair[:5], pair[5], (None, sides))
        return list(fresh)

    def raised(self, fresh):
        """Goes one move on from these bare pairs; returns those whose differences are greater now."""
        found = {}
        for bare in fresh:
            for move, (behind, weight) in self.couple.behind(bare).items():
                self._enter(found, behind, self.heights[bare] + weight, (bare, move))
        return list(found)

    def _enter(self, fresh, bare, height, step):
        if bare in self.heights and height <= self.heights[bare]:
            return
        self.heights[bare] = height
        self.before[bare] = step
        self.origins.setdefault(bare, step)
        fresh[bare] = True

    def on_a_ring(self):
        """A bare pair that is behind itself on the way of the greatest differences, or None.

        A step is entered only if it leads higher; so a ring of such steps leads higher in each round.
        """
        seen = {}
        for begin in self.before:
            bare = begin
            while bare is not None and bare not in seen:
                seen[bare] = begin
                bare = self.before[bare][0]
            if bare is not None and seen[bare] == begin:
                return bare
        return None

    def family(self, bare):
        """The family whose ring leads from this bare pair, which is on a ring, to itself."""
        sides, *lead = _way(self.origins, bare, None)
        ring = _way(self.before, bare, bare)
        return (sides, tuple(lead), tuple(ring), _tail(bare))

    def peak(self):
        """The greatest loss of all notes, and a bare pair at the end of a way on which it is reached."""
        found = None
        for bare, height in self.heights.items():
            gain = gain_of(bare)
            if gain is not None and (found is None or height + gain > found[0]):
                found = (height + gain, bare)
        return found


def _way(steps, bare, begin):
    """What the steps say that lead from begin, a bare pair or None, to a bare pair, in order."""
    before, told = steps[bare]
    back = [told]
    while before != begin:
        before, told = steps[before]
        back.append(told)
    return back[::-1]


def _tail(bare):
    """A move from a bare pair on a ring to one with both sides at places."""
    # Sides with equal numbers have tables of the level 0 only, and so are on no such ring; all others can go at once.
    return ((TO_PLACE[bare[0][0]], TO_PLACE[bare[1][0]]),)


def _note(sides, way):
    """The note behind these moves, from sides at depth 2 on."""
    x, y = sides
    return _point(x, [move[0] for move in way]), _point(y, [move[1] for move in way])


def _point(side, words):
    """The point behind these words, from a side at depth 2 on."""
    pulse, bits = point_of(side[1], DEPTH)
    bits = bits.ljust(DEPTH, "0") + "".join([DIGITS[word] for word in words])
    return (pulse, bits.rstrip("0"))


def is_bound(metre, book, other_metre, other_book, number, thing):
    """Whether any value is potentials that show that no note has a loss above number."""
    check_metres(metre, other_metre)
    if not is_number(number) or not isinstance(thing, dict):
        return False
    for bare, value in thing.items():
        if not is_bare_pair(bare) or not is_number(value):
            return False
    couple = Couple(Machine(metre, book), Machine(other_metre, other_book))
    for pair in couple.first_pairs().values():
        if not _is_held(thing, pair[:5], pair[5]):
            return False
    for bare, value in thing.items():
        gain = gain_of(bare)
        if gain is not None and value + gain > number:
            return False
        if not all([_is_held(thing, behind, value + weight) for behind, weight in couple.behind(bare).values()]):
            return False
    return True


def _is_held(potentials, bare, height):
    """Whether potentials have a bare pair, with at least this height."""
    return bare in potentials and potentials[bare] >= height


def is_rising(metre, book, other_metre, other_book, thing):
    """Whether any value is a family that rises."""
    check_metres(metre, other_metre)
    if not _is_family(metre, thing):
        return False
    sides, lead, ring, _ = thing
    couple = Couple(Machine(metre, book), Machine(other_metre, other_book))
    bare = couple.first_pairs()[sides][:5]
    for move in lead:
        bare, _ = couple.behind(bare)[move]
    end = bare
    total = 0
    for move in ring:
        end, weight = couple.behind(end)[move]
        total = total + weight
    return end == bare and total > 0


def note_of(metre, family, number):
    """The note of a family with a number."""
    if not _is_family(metre, family):
        raise BadFamily("no family of notes")
    if not is_number(number) or not 0 <= number <= MOST_COUNT:
        raise BadCount("no number of a note of a family")
    sides, lead, ring, tail = family
    return _note(sides, lead + ring * number + tail)


def _is_family(metre, thing):
    """Whether any value has the form of a family."""
    if not isinstance(thing, tuple) or len(thing) != 4:
        return False
    sides, lead, ring, tail = thing
    if not _are_sides(metre, sides) or not all([isinstance(part, tuple) for part in (lead, ring, tail)]):
        return False
    return len(ring) > 0 and _are_shut(sides, lead + tail) and _are_shut(sides, lead + ring + tail)


def _are_sides(metre, thing):
    """Whether any value is a pair of sides at depth 2 at which x can stand before y."""
    if not isinstance(thing, tuple) or len(thing) != 2:
        return False
    x, y = thing
    if not is_side(x) or not is_side(y) or not can_stand(x, y):
        return False
    # The end of the bar is a place, but no cell begins there.
    last = metre.pulses << DEPTH
    return y[1] < last or y == ("at", last)


def _are_shut(sides, way):
    """Whether any values are moves that are possible one after another, with both sides at places behind them."""
    x, y = sides
    for move in way:
        if move not in side_moves(x, y):
            return False
        x, y = small_sides(moved_side(x, move[0]), moved_side(y, move[1]))
    return x[0] == "at" and y[0] == "at"
