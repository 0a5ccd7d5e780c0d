"""Rhythms: tones and rests that follow one another."""

from barscribe.errors import BadNumber, BadPoint, BadRhythm
from barscribe.metres import is_bits, is_number

MOST_LENGTH = 240
MOST_NOTES = 200


def is_moment(thing, length):
    """Whether any value is a moment before the end of a rhythm of this length."""
    if not isinstance(thing, tuple) or len(thing) != 2:
        return False
    pulse, bits = thing
    return is_number(pulse) and is_bits(bits) and 0 <= pulse < length


def is_sound(thing):
    """Whether any value is a sound."""
    return isinstance(thing, str) and thing in ("tone", "rest")


def _is_note(thing, length):
    """Whether any value is a note of a rhythm of this length."""
    if not isinstance(thing, tuple) or len(thing) != 2:
        return False
    return is_moment(thing[0], length) and is_sound(thing[1])


def _checked(length, notes):
    """The tuple of the notes of a rhythm of this length; raises the error of the first that is not valid."""
    if not isinstance(notes, (list, tuple)) or not notes:
        raise BadRhythm(0)
    for index, note in enumerate(notes[:MOST_NOTES]):
        if not _is_note(note, length):
            raise BadRhythm(index)
        follows = note[0] > notes[index - 1][0] if index > 0 else note[0] == (0, "")
        if not follows:
            raise BadRhythm(index)
    if len(notes) > MOST_NOTES:
        raise BadRhythm(MOST_NOTES)
    return tuple(notes)


def _shifted(notes, pulses):
    """Notes that begin so many pulses later."""
    return [((pulse + pulses, bits), sound) for (pulse, bits), sound in notes]


class Rhythm:
    """Notes that follow one another up to an end."""

    def __init__(self, length, notes):
        if not is_number(length) or not 1 <= length <= MOST_LENGTH:
            raise BadNumber("a rhythm has from 1 to 240 pulses")
        self.length = length
        self.notes = _checked(length, notes)

    def __eq__(self, other):
        return isinstance(other, Rhythm) and self.length == other.length and self.notes == other.notes

    def __len__(self):
        return len(self.notes)

    def span(self, index):
        """The moments at which a note begins and ends."""
        if not is_number(index) or not 0 <= index < len(self.notes):
            raise BadNumber("no note has this index")
        if index + 1 < len(self.notes):
            return self.notes[index][0], self.notes[index + 1][0]
        return self.notes[index][0], (self.length, "")

    def at(self, moment):
        """The index of the note that sounds at a moment."""
        if not is_moment(moment, self.length):
            raise BadPoint(moment)
        low = 0
        high = len(self.notes)
        while high - low > 1:
            middle = (low + high) // 2
            if self.notes[middle][0] <= moment:
                low = middle
            else:
                high = middle
        return low

    def part(self, begin, end):
        """The Rhythm from one pulse to a later one."""
        if not is_number(begin) or not is_number(end) or not 0 <= begin < end <= self.length:
            raise BadNumber("no part of the rhythm")
        index = self.at((begin, ""))
        inner = [note for note in self.notes[index + 1:] if note[0] < (end, "")]
        return Rhythm(end - begin, [((0, ""), self.notes[index][1])] + _shifted(inner, -begin))

    def joined(self, other):
        """The Rhythm followed by another one."""
        if not isinstance(other, Rhythm):
            raise BadRhythm(0)
        length = self.length + other.length
        if length > MOST_LENGTH or len(self.notes) + len(other.notes) > MOST_NOTES:
            raise BadNumber("the rhythms are too long together")
        return Rhythm(length, list(self.notes) + _shifted(other.notes, self.length))
