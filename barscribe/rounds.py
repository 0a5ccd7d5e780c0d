"""Voices that repeat for ever: when they sound together, and for which delays they never do."""

from math import comb, gcd, lcm

from barscribe.errors import BadDepth, BadNumber, BadRhythm, BadTime, BadVoice, TooMany
from barscribe.metres import is_number, place_of
from barscribe.rhythms import Rhythm

MOST_LENGTH = 1_000_000_000_000
MOST_ENTRY = 1_000_000_000_000_000
MOST_ONSETS = 24
MOST_VOICES = 6
MOST_CHOICES = 5000
MOST_DEPTH = 8


def _is_voice(thing):
    """Whether any value is a voice."""
    if not isinstance(thing, tuple) or len(thing) != 3:
        return False
    length, onsets, entry = thing
    if not is_number(length) or not 1 <= length <= MOST_LENGTH or not _is_entry(entry):
        return False
    if not isinstance(onsets, tuple) or not 1 <= len(onsets) <= MOST_ONSETS:
        return False
    if not all([is_number(onset) and 0 <= onset < length for onset in onsets]):
        return False
    return all([onset < later for onset, later in zip(onsets, onsets[1:])])


def _is_entry(thing):
    """Whether any value is the entry of a voice."""
    return is_number(thing) and 0 <= thing <= MOST_ENTRY


def _check_voices(voices):
    if not isinstance(voices, (list, tuple)) or not 1 <= len(voices) <= MOST_VOICES:
        raise BadVoice(0)
    for index, voice in enumerate(voices):
        if not _is_voice(voice):
            raise BadVoice(index)
    choices = 1
    for _, onsets, _ in voices:
        choices = choices * len(onsets)
    if choices > MOST_CHOICES:
        raise TooMany(MOST_CHOICES)


def _check_number(voices, number):
    if not is_number(number) or not 1 <= number <= len(voices):
        raise BadNumber("no number of voices")


def _check_time(time):
    if not is_number(time) or time < 0:
        raise BadTime("a time is an integer from 0 on")


def voice_of(rhythm, depth, entry=0):
    """The voice of the beginnings of the tones of a Rhythm, in cells of a depth."""
    if not isinstance(rhythm, Rhythm):
        raise BadRhythm(0)
    if not is_number(depth) or not 0 <= depth <= MOST_DEPTH:
        raise BadDepth("no depth from 0 to 8")
    if not _is_entry(entry):
        raise BadTime("no entry of a voice")
    tones = [moment for moment, sound in rhythm.notes if sound == "tone"]
    if not 1 <= len(tones) <= MOST_ONSETS or max([len(bits) for _, bits in tones]) > depth:
        raise BadVoice(0)
    return (rhythm.length << depth, tuple([place_of(moment, depth) for moment in tones]), entry)


def sounds_at(voices, time):
    """The ascending tuple of the indexes of the voices that sound at a time."""
    _check_voices(voices)
    _check_time(time)
    return _sounding(voices, time)


def _sounding(voices, time):
    found = []
    for index, (length, onsets, entry) in enumerate(voices):
        if time >= entry and (time - entry) % length in onsets:
            found.append(index)
    return tuple(found)


def _meetings(voices):
    """From each tuple of indexes of voices that sound together at some time to when they do.

    That is a triple: the latest of their entries, the least common multiple of their lengths, and the remainders by
    it of the times, from the entry on, at which they do.
    """
    found = {(): (0, 1, [0])}
    for index, (length, onsets, entry) in enumerate(voices):
        places = [(entry + onset) % length for onset in onsets]
        for indexes in list(found):
            begin, period, rests = found[indexes]
            merged = _merged(period, rests, length, places)
            if merged:
                longer = (*indexes, index)
                found[longer] = (max(begin, entry), lcm(period, length), merged)
    return {some: found[some] for some in found if some != ()}


def _merged(period, rests, length, places):
    """The remainders by the least common multiple of numbers with one of these by the period, and by the length."""
    common = gcd(period, length)
    whole = period // common * length
    # A multiple of the period that leaves the remainder common by the length.
    step = period * _inverse(period // common, length // common)
    found = []
    for rest in rests:
        for place in places:
            if (place - rest) % common == 0:
                found.append((rest + (place - rest) // common * step) % whole)
    return found


def _inverse(number, modulus):
    """The number from 0 on, below a modulus, whose product with a number leaves 1; the two have no common divisor."""
    before = (modulus, 0)
    here = (number % modulus, 1)
    while here[0] != 0:
        times = before[0] // here[0]
        before, here = here, (before[0] - times * here[0], before[1] - times * here[1])
    return before[1] % modulus


def classes(voices):
    """The ascending list of all classes of all these voices."""
    _check_voices(voices)
    found = _meetings(voices).get(tuple(range(len(voices))))
    if found is None:
        return []
    _, period, rests = found
    return [(rest, period) for rest in sorted(rests)]


def next_together(voices, number, time):
    """The first time from this one on at which at least so many voices sound, with their indexes; or None."""
    _check_voices(voices)
    _check_number(voices, number)
    _check_time(time)
    return _next(voices, _meetings(voices), number, time)


def _next(voices, meetings, number, time):
    firsts = []
    for indexes, (begin, period, rests) in meetings.items():
        if len(indexes) == number:
            low = max(begin, time)
            firsts.extend([low + (rest - low) % period for rest in rests])
    if not firsts:
        return None
    first = min(firsts)
    return first, _sounding(voices, first)


def most_together(voices):
    """The greatest number of voices that sound together, the first time at which so many do, and their indexes."""
    _check_voices(voices)
    meetings = _meetings(voices)
    most = max([len(indexes) for indexes in meetings])
    first, indexes = _next(voices, meetings, most, 0)
    return most, first, indexes


def count_together(voices, number, low, high):
    """The number of times from low on and before high at which at least so many voices sound."""
    _check_voices(voices)
    _check_number(voices, number)
    _check_time(low)
    _check_time(high)
    total = 0
    for indexes, (begin, period, rests) in _meetings(voices).items():
        times = sum([_times_between(rest, period, max(low, begin), high) for rest in rests])
        total = total + _share(len(indexes), number) * times
    return total


def _share(size, number):
    """How often a time is to be counted for each choice of so many voices that sound then.

    If so many voices or more sound at a time, all these counts together are 1 for it, otherwise 0.
    """
    if size < number:
        return 0
    times = comb(size - 1, number - 1)
    return times if (size - number) % 2 == 0 else -times


def _times_between(rest, period, low, high):
    """How many numbers from low on and before high leave this remainder by the period."""
    if high <= low:
        return 0
    return (high - 1 - rest) // period - (low - 1 - rest) // period


def clashes(one, other):
    """The greatest common divisor of two lengths, and the ascending tuple of all clashes."""
    for index, voice in enumerate((one, other)):
        if not _is_voice(voice):
            raise BadVoice(index)
    common = gcd(one[0], other[0])
    away = one[2] - other[2]
    return common, tuple(sorted(set([(away + first - second) % common for first in one[1] for second in other[1]])))


def next_clear(one, other, delay):
    """The least delay from this one on with which two voices never sound together; or None."""
    common, found = clashes(one, other)
    _check_time(delay)
    if len(found) == common:
        return None
    # One of the next delays is clear, for there are only so many clashes.
    while delay % common in found:
        delay = delay + 1
    return delay
