"""Canons: which entries of one wheel fit together, and refutations that show that none do."""

from barscribe.errors import BadNumber, BadWheel, BadWord
from barscribe.metres import is_number

MOST_STEPS = 16
MOST_NUMBER = 17


def _is_wheel(thing):
    """Whether any value is a wheel."""
    if not isinstance(thing, tuple) or len(thing) != 2:
        return False
    steps, onsets = thing
    if not is_number(steps) or not 2 <= steps <= MOST_STEPS:
        return False
    return isinstance(onsets, tuple) and len(onsets) > 0 and _ascend(steps, onsets)


def _ascend(steps, thing):
    """Whether all items of a tuple are steps, ascending."""
    if not all([is_number(step) and 0 <= step < steps for step in thing]):
        return False
    return all([step < later for step, later in zip(thing, thing[1:])])


def most_entries(wheel):
    """The first of the greatest clear entries, and a refutation of one more."""
    turning = Turning(wheel)
    entries = turning.most_clear()
    return entries, turning.clear_refutation(len(entries), turning.fills[0])


def fewest_entries(wheel):
    """The first of the least full entries, and a refutation of one less."""
    turning = Turning(wheel)
    entries = turning.fewest_full()
    if len(entries) == 1:
        return entries, None
    return entries, turning.full_refutation(len(entries) - 2, turning.fills[0])


def exact_entries(wheel):
    """The ascending list of all exact entries, and a refutation if there are none."""
    turning = Turning(wheel)
    found = turning.all_exact()
    if found:
        return found, None
    return found, turning.exact_refutation(turning.fills[0])


def are_clear(wheel, value):
    """Whether any value is clear entries."""
    turning = Turning(wheel)
    return turning.are_entries(value) and turning.filled(value) == len(value) * turning.many


def are_full(wheel, value):
    """Whether any value is full entries."""
    turning = Turning(wheel)
    return turning.are_entries(value) and turning.filled(value) == turning.steps


def is_refutation(wheel, word, number, value):
    """Whether any value is a refutation of a word and a number."""
    turning = Turning(wheel)
    if not isinstance(word, str) or word not in ("clear", "full", "exact"):
        raise BadWord("no word of a refutation")
    if not is_number(number) or not (number == 0 if word == "exact" else 1 <= number <= MOST_NUMBER):
        raise BadNumber("no number of a refutation")
    if word == "clear":
        return turning.refutes_clear(value, number - 1, turning.fills[0])
    if word == "full":
        return turning.refutes_full(value, number - 1, turning.fills[0])
    return turning.refutes_exact(value, turning.fills[0])


class Turning:
    """A wheel with all its entries; steps are told by the bits of a number, fills has those of each entry.

    The entry 0 is always chosen. Steps that are blocked are filled or closed.
    """

    def __init__(self, wheel):
        if not _is_wheel(wheel):
            raise BadWheel("no wheel")
        self.steps, onsets = wheel
        self.many = len(onsets)
        self.whole = (1 << self.steps) - 1
        self.fills = [sum([1 << ((entry + onset) % self.steps) for onset in onsets]) for entry in range(self.steps)]

    def are_entries(self, thing):
        """Whether any value is entries."""
        return isinstance(thing, tuple) and len(thing) > 0 and _ascend(self.steps, thing) and thing[0] == 0

    def filled(self, entries):
        """The number of steps that entries fill."""
        blocked = 0
        for entry in entries:
            blocked = blocked | self.fills[entry]
        return self.steps - self.free(blocked)

    def free(self, blocked):
        """The number of free steps."""
        return self.steps - f"{blocked:b}".count("1")

    def fillers(self, step):
        """The entries that fill a step, ascending."""
        return [entry for entry in range(self.steps) if (self.fills[entry] >> step) & 1 == 1]

    def fitting(self, step, blocked):
        """The entries that fit and fill a step, ascending."""
        return [entry for entry in self.fillers(step) if self.fills[entry] & blocked == 0]

    def free_steps(self, blocked):
        """The free steps, ascending."""
        return [step for step in range(self.steps) if (blocked >> step) & 1 == 0]

    def most_clear(self):
        """The first of the clear entries with the greatest number."""
        found = ()
        waiting = [((0,), self.fills[0])]
        while waiting:
            entries, filled = waiting.pop()
            if len(entries) > len(found):
                found = entries
            fitting = [entry for entry in range(entries[-1] + 1, self.steps) if self.fills[entry] & filled == 0]
            if len(entries) + min(len(fitting), self.free(filled) // self.many) > len(found):
                waiting.extend(self._each_with(entries, filled, fitting))
        return found

    def _each_with(self, entries, filled, more):
        """Entries with each one of some more, and the steps that they fill, the least ones last."""
        return [((*entries, entry), filled | self.fills[entry]) for entry in more[::-1]]

    def fewest_full(self):
        """The first of the full entries with the least number."""
        found = None
        many = 0
        while found is None:
            many = many + 1
            found = self._first_full(many)
        return found

    def _first_full(self, many):
        """The first full entries with so many, if there are none with fewer; or None."""
        waiting = [((0,), self.fills[0])]
        while waiting:
            entries, filled = waiting.pop()
            if filled == self.whole:
                return entries
            missing = many - len(entries)
            if self.free(filled) <= missing * self.many:
                later = list(range(entries[-1] + 1, self.steps - missing + 1))
                waiting.extend(self._each_with(entries, filled, later))
        return None

    def all_exact(self):
        """The ascending list of all exact entries."""
        found = []
        waiting = [((0,), self.fills[0])]
        while waiting:
            entries, filled = waiting.pop()
            if filled == self.whole:
                found.append(tuple(sorted(entries)))
            else:
                step = self.free_steps(filled)[0]
                waiting.extend(self._each_with(entries, filled, self.fitting(step, filled)))
        return sorted(found)

    def _narrowest(self, blocked):
        """A free step that the fewest entries that fit fill, so that there are few cases."""
        return min([(len(self.fitting(step, blocked)), step) for step in self.free_steps(blocked)])[1]

    def clear_refutation(self, missing, blocked):
        """A refutation of so many more clear entries, there being none."""
        if self.free(blocked) < missing * self.many:
            return None
        step = self._narrowest(blocked)
        chosen = {}
        for entry in self.fitting(step, blocked):
            chosen[entry] = self.clear_refutation(missing - 1, blocked | self.fills[entry])
        return (step, self.clear_refutation(missing, blocked | 1 << step), chosen)

    def full_refutation(self, left, filled):
        """A refutation of full entries with at most so many more, there being none."""
        if self.free(filled) > left * self.many:
            return None
        step = self._fullest(filled)
        chosen = self.fillers(step)
        return (step, {entry: self.full_refutation(left - 1, filled | self.fills[entry]) for entry in chosen})

    def _fullest(self, filled):
        """A free step such that the entries that fill it fill few others, so that there are few cases below."""
        found = []
        for step in self.free_steps(filled):
            free = [self.free(filled | self.fills[entry]) for entry in self.fillers(step)]
            found.append((-sum(free), step))
        return min(found)[1]

    def exact_refutation(self, filled):
        """A refutation of exact entries, there being none."""
        step = self._narrowest(filled)
        chosen = self.fitting(step, filled)
        return (step, {entry: self.exact_refutation(filled | self.fills[entry]) for entry in chosen})

    def refutes_clear(self, thing, missing, blocked):
        """Whether any value is a refutation of so many more clear entries."""
        if thing is None or missing <= 0:
            return thing is None and missing > 0 and self.free(blocked) < missing * self.many
        if not isinstance(thing, tuple) or len(thing) != 3:
            return False
        step, closed, chosen = thing
        if not self._is_free(step, blocked) or not _has_just(chosen, self.fitting(step, blocked)):
            return False
        if not self.refutes_clear(closed, missing, blocked | 1 << step):
            return False
        cases = [(below, blocked | self.fills[entry]) for entry, below in chosen.items()]
        return all([self.refutes_clear(below, missing - 1, more) for below, more in cases])

    def refutes_full(self, thing, left, filled):
        """Whether any value is a refutation of full entries with at most so many more."""
        if thing is None or left <= 0:
            return thing is None and self.free(filled) > left * self.many
        if not self._is_pair(thing, filled) or not _has_just(thing[1], self.fillers(thing[0])):
            return False
        cases = [(below, filled | self.fills[entry]) for entry, below in thing[1].items()]
        return all([self.refutes_full(below, left - 1, more) for below, more in cases])

    def refutes_exact(self, thing, filled):
        """Whether any value is a refutation of exact entries."""
        if not self._is_pair(thing, filled) or not _has_just(thing[1], self.fitting(thing[0], filled)):
            return False
        cases = [(below, filled | self.fills[entry]) for entry, below in thing[1].items()]
        return all([self.refutes_exact(below, more) for below, more in cases])

    def _is_pair(self, thing, filled):
        """Whether any value is a pair of a free step and something."""
        return isinstance(thing, tuple) and len(thing) == 2 and self._is_free(thing[0], filled)

    def _is_free(self, thing, blocked):
        """Whether any value is a free step."""
        return is_number(thing) and thing in self.free_steps(blocked)


def _has_just(thing, entries):
    """Whether any value is a dict from just these entries."""
    if not isinstance(thing, dict) or len(thing) != len(entries):
        return False
    return all([is_number(key) and key in entries for key in thing])
