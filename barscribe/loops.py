"""Rhythms that are repeated for ever: loops of bars, their rates, and heights that bound all rates."""

from math import gcd

from barscribe.errors import BadLoop, BadNumber
from barscribe.metres import is_number
from barscribe.moving import Bars, check_metres_of_rows

MOST_BARS = 240


def bar_signs(rhythm, metre, book, pulse):
    """The number of signs of the bar that begins at this pulse."""
    if not is_number(pulse) or not 0 <= pulse < rhythm.length:
        raise BadNumber("no pulse of the rhythm")
    return _signs(Bars(book), rhythm, metre, pulse)


def _signs(bars, rhythm, metre, pulse):
    return sum([bars.signs_of(metre, x, y) for x, y in _bar_notes(rhythm, metre, pulse)])


def _bar_notes(rhythm, metre, pulse):
    """The stretches of the notes in the bar that begins at this pulse, as many rounds as it may go over."""
    end = (metre.pulses, "")
    found = []
    index = rhythm.at((pulse, ""))
    # Where in the bar the round begins to which the note belongs.
    shift = -pulse
    y = (0, "")
    while y < end:
        first, last = rhythm.span(index)
        x = max((first[0] + shift, first[1]), (0, ""))
        y = min((last[0] + shift, last[1]), end)
        found.append((x, y))
        index = index + 1
        if index == len(rhythm):
            index = 0
            shift = shift + rhythm.length
    return found


def rate(rhythm, metres, book, loop):
    """The rate of a loop, in lowest terms."""
    check_metres_of_rows(metres)
    if not _is_loop(rhythm, metres, loop):
        raise BadLoop("no loop of these metres")
    return Rounds(rhythm, metres, book).rate(loop)


def _is_loop(rhythm, metres, thing):
    """Whether any value is a loop."""
    if not isinstance(thing, tuple) or len(thing) != 2:
        return False
    start, indexes = thing
    if not is_number(start) or not 0 <= start < rhythm.length:
        return False
    if not isinstance(indexes, tuple) or not 1 <= len(indexes) <= MOST_BARS:
        return False
    if not all([is_number(index) and 0 <= index < len(metres) for index in indexes]):
        return False
    return sum([metres[index].pulses for index in indexes]) % rhythm.length == 0


def best_loop(rhythm, metres, book):
    """The pair of the least rate and a loop that has it."""
    check_metres_of_rows(metres)
    rounds = Rounds(rhythm, metres, book)
    loop, _ = rounds.settled()
    return (rounds.rate(loop), loop)


def heights(rhythm, metres, book):
    """Heights for the least rate."""
    check_metres_of_rows(metres)
    return Rounds(rhythm, metres, book).settled()[1]


def are_heights(rhythm, metres, book, fraction, value):
    """Whether any value is a list of heights for a fraction."""
    check_metres_of_rows(metres)
    if not _is_fraction(fraction):
        raise BadNumber("no fraction")
    if not isinstance(value, list) or len(value) != rhythm.length or not all([is_number(entry) for entry in value]):
        return False
    rounds = Rounds(rhythm, metres, book)
    return all([value[there] <= value[pulse] + cost for pulse, _, there, cost in rounds.steps_at(fraction)])


def _is_fraction(thing):
    """Whether any value is a pair of an integer from 0 on and one from 1 on."""
    if not isinstance(thing, tuple) or len(thing) != 2:
        return False
    return is_number(thing[0]) and is_number(thing[1]) and thing[0] >= 0 and thing[1] >= 1


class Rounds:
    """The bars of some metres at each pulse of a rhythm that is repeated for ever."""

    def __init__(self, rhythm, metres, book):
        self.repeated = rhythm
        self.metres = list(metres)
        self.bars = Bars(book)
        self.length = rhythm.length
        self.known = {}

    def signs_at(self, pulse, index):
        """The signs of the bar that begins at this pulse, in the metre with this index."""
        key = (pulse, index)
        if key not in self.known:
            self.known[key] = _signs(self.bars, self.repeated, self.metres[index], pulse)
        return self.known[key]

    def rate(self, loop):
        """The signs of the bars of a loop divided by their pulses, in lowest terms."""
        pulse, indexes = loop
        total = 0
        pulses = 0
        for index in indexes:
            total = total + self.signs_at((pulse + pulses) % self.length, index)
            pulses = pulses + self.metres[index].pulses
        common = gcd(total, pulses)
        return (total // common, pulses // common)

    def steps_at(self, fraction):
        """For each bar a tuple (pulse, index of its metre, pulse behind it, cost).

        The cost is how much the signs are above the fraction, so no loop costs less than 0 in sum if it is the least
        rate, and a loop that does has a lesser one.
        """
        signs, pulses = fraction
        found = []
        for pulse in range(self.length):
            for index, metre in enumerate(self.metres):
                cost = pulses * self.signs_at(pulse, index) - signs * metre.pulses
                found.append((pulse, index, (pulse + metre.pulses) % self.length, cost))
        return found

    def settled(self):
        """A loop with the least rate, and heights for it."""
        loop = self._first_loop()
        while True:
            lesser, entries = self._lesser_loop(self.rate(loop))
            if lesser is None:
                return loop, entries
            loop = lesser

    def _first_loop(self):
        """A loop of bars of the first metre."""
        many = 1
        while many * self.metres[0].pulses % self.length != 0:
            many = many + 1
        return (0, (0,) * many)

    def _lesser_loop(self, fraction):
        """A loop with a rate below that of a fraction and None; or None and heights for the fraction."""
        steps = self.steps_at(fraction)
        entries = [0] * self.length
        before = {}
        while True:
            raised = False
            for pulse, index, there, cost in steps:
                if entries[pulse] + cost < entries[there]:
                    entries[there] = entries[pulse] + cost
                    before[there] = (pulse, index)
                    raised = True
            if not raised:
                return None, entries
            pulse = _on_a_ring(before)
            if pulse is not None:
                return _ring(before, pulse), None


def _on_a_ring(before):
    """A pulse that is behind itself by the steps that led to the pulses, or None."""
    seen = {}
    for begin in before:
        pulse = begin
        while pulse in before and pulse not in seen:
            seen[pulse] = begin
            pulse = before[pulse][0]
        if pulse in before and seen[pulse] == begin:
            return pulse
    return None


def _ring(before, start):
    """The loop that leads from a pulse to itself, which visits no pulse twice."""
    pulse, index = before[start]
    back = [index]
    while pulse != start:
        pulse, index = before[pulse]
        back.append(index)
    return (start, tuple(back[::-1]))
