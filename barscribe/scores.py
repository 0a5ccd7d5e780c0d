"""Scores: parts in bars, and the deeds that change them."""

from barscribe.errors import BadBar, BadBook, BadDeed, BadMetre, BadMoment, BadName, BadRow, BadSound
from barscribe.errors import NoPart, NothingDone, Taken, TooMany
from barscribe.metres import Metre, is_number
from barscribe.moving import Bars, written
from barscribe.rhythms import MOST_LENGTH, MOST_NOTES, Rhythm, is_moment, is_sound
from barscribe.shapes import Book

MOST_BARS = 24
MOST_PARTS = 8
MOST_LETTERS = 8

LETTERS = "abcdefghijklmnopqrstuvwxyz"
BEGIN = (0, "")


def is_name(thing):
    """Whether any value is a name of a part."""
    return isinstance(thing, str) and 1 <= len(thing) <= MOST_LETTERS and thing.strip(LETTERS) == ""


def _are_bars(thing):
    """Whether any value is a list of metres that can be the bars of a score."""
    if not isinstance(thing, (list, tuple)) or not 1 <= len(thing) <= MOST_BARS:
        return False
    if not all([isinstance(metre, Metre) for metre in thing]):
        return False
    return sum([metre.pulses for metre in thing]) <= MOST_LENGTH


class Page:
    """What stands in a score at one time; a page is never changed.

    needs keeps what the notes need by the book; totals has the signs of each part, of which some may be known before.
    """

    def __init__(self, bars, needs, rhythms, known):
        self.bars = bars
        self.needs = needs
        self.book = needs.book
        self.length = sum([metre.pulses for metre in bars])
        self.rhythms = {name: rhythms[name] for name in sorted(list(rhythms))}
        self.names = tuple(self.rhythms)
        self.totals = {name: known[name] if name in known else self._signs_of(name) for name in self.names}
        self.total = sum([self.totals[name] for name in self.names])

    def _signs_of(self, name):
        begin = 0
        total = 0
        for metre in self.bars:
            total = total + self.needs.bar_signs(self.rhythms[name], metre, begin)
            begin = begin + metre.pulses
        return total

    def begin_of(self, index):
        """The pulse at which a bar begins, or the end of the bars for their number."""
        return sum([metre.pulses for metre in self.bars[:index]])

    def rhythm_of(self, name):
        """The Rhythm of a part."""
        if not isinstance(name, str) or name not in self.rhythms:
            raise NoPart(name)
        return self.rhythms[name]

    def with_notes(self, name, notes):
        """The page on which a part has these notes."""
        if len(notes) > MOST_NOTES:
            raise TooMany(MOST_NOTES)
        rhythms = {other: self.rhythms[other] for other in self.names}
        rhythms[name] = Rhythm(self.length, notes)
        known = {other: self.totals[other] for other in self.names if other != name}
        return Page(self.bars, self.needs, rhythms, known)

    def with_bars(self, bars, notes):
        """The page with these bars, on which each part has the notes that notes has for it."""
        for name in self.names:
            if len(notes[name]) > MOST_NOTES:
                raise TooMany(MOST_NOTES)
        length = sum([metre.pulses for metre in bars])
        return Page(bars, self.needs, {name: Rhythm(length, notes[name]) for name in self.names}, {})


def _part(page, name):
    if not is_name(name):
        raise BadName(name)
    if name in page.rhythms:
        raise Taken(name)
    if len(page.names) == MOST_PARTS:
        raise TooMany(MOST_PARTS)
    return page.with_notes(name, [(BEGIN, "rest")])


def _leave(page, name):
    page.rhythm_of(name)
    rhythms = {other: page.rhythms[other] for other in page.names if other != name}
    return Page(page.bars, page.needs, rhythms, page.totals)


def _play(page, name, begin, end, sound):
    rhythm = page.rhythm_of(name)
    if not is_moment(begin, page.length):
        raise BadMoment(begin)
    if not is_moment(end, page.length) and not _is_end(end, page.length):
        raise BadMoment(end)
    if not begin < end:
        raise BadMoment(end)
    if not is_sound(sound):
        raise BadSound("a sound is a tone or a rest")
    notes = [note for note in rhythm.notes if note[0] < begin] + [(begin, sound)]
    return page.with_notes(name, notes + _notes_from(rhythm, end))


def _is_end(thing, length):
    """Whether any value is the end of bars of this length, as a moment."""
    if not isinstance(thing, tuple) or len(thing) != 2 or not is_number(thing[0]) or not isinstance(thing[1], str):
        return False
    return thing == (length, "")


def _notes_from(rhythm, moment):
    """The notes of a Rhythm from a moment, or its end, on; one that sounds at the moment begins there."""
    if moment[0] == rhythm.length:
        return []
    sound = rhythm.notes[rhythm.at(moment)][1]
    return [(moment, sound)] + [note for note in rhythm.notes if note[0] > moment]


def _cut(page, name, moment):
    rhythm = page.rhythm_of(name)
    if not is_moment(moment, page.length):
        raise BadMoment(moment)
    index = rhythm.at(moment)
    begin, sound = rhythm.notes[index]
    if begin == moment:
        raise BadMoment(moment)
    return page.with_notes(name, rhythm.notes[:index + 1] + ((moment, sound),) + rhythm.notes[index + 1:])


def _tie(page, name, moment):
    rhythm = page.rhythm_of(name)
    if not is_moment(moment, page.length):
        raise BadMoment(moment)
    index = rhythm.at(moment)
    begin, sound = rhythm.notes[index]
    if begin != moment or index == 0 or rhythm.notes[index - 1][1] != sound:
        raise BadMoment(moment)
    return page.with_notes(name, rhythm.notes[:index] + rhythm.notes[index + 1:])


def _shifted(notes, pulses):
    """Notes that begin so many pulses later."""
    return [((pulse + pulses, bits), sound) for (pulse, bits), sound in notes]


def _check_bar(index, many):
    if not is_number(index) or not 0 <= index < many:
        raise BadBar(index)


def _bar(page, index, tree):
    _check_bar(index, len(page.bars) + 1)
    metre = Metre(tree)
    if len(page.bars) == MOST_BARS:
        raise TooMany(MOST_BARS)
    if page.length + metre.pulses > MOST_LENGTH:
        raise TooMany(MOST_LENGTH)
    line = (page.begin_of(index), "")
    notes = {}
    for name in page.names:
        rhythm = page.rhythms[name]
        before = [note for note in rhythm.notes if note[0] < line]
        notes[name] = before + [(line, "rest")] + _shifted(_notes_from(rhythm, line), metre.pulses)
    return page.with_bars(page.bars[:index] + (metre,) + page.bars[index:], notes)


def _drop(page, index):
    _check_bar(index, len(page.bars))
    if len(page.bars) == 1:
        raise BadBar(index)
    begin = (page.begin_of(index), "")
    pulses = page.bars[index].pulses
    notes = {}
    for name in page.names:
        rhythm = page.rhythms[name]
        behind = _notes_from(rhythm, (begin[0] + pulses, ""))
        notes[name] = [note for note in rhythm.notes if note[0] < begin] + _shifted(behind, -pulses)
    return page.with_bars(page.bars[:index] + page.bars[index + 1:], notes)


def _metre(page, index, tree):
    _check_bar(index, len(page.bars))
    metre = Metre(tree)
    if metre.pulses != page.bars[index].pulses:
        raise BadMetre("the bar has another number of pulses")
    return Page(page.bars[:index] + (metre,) + page.bars[index + 1:], page.needs, page.rhythms, {})


def _book(page, shapes):
    return Page(page.bars, Bars(Book(shapes)), page.rhythms, {})


# For each word of a deed what it makes of a page; undo and redo take pages that were made before.
WORKS = {
    "part": _part, "leave": _leave, "play": _play, "cut": _cut, "tie": _tie, "bar": _bar, "drop": _drop,
    "metre": _metre, "book": _book,
}

# For each word how many parts the deed has.
PARTS = {
    "part": 2, "leave": 2, "play": 5, "cut": 3, "tie": 3, "bar": 3, "drop": 2, "metre": 3, "book": 2, "undo": 1,
    "redo": 1,
}


def is_deed(thing):
    """Whether any value is a tuple with the word of a deed and as many parts."""
    if not isinstance(thing, tuple) or len(thing) == 0 or not isinstance(thing[0], str):
        return False
    return thing[0] in PARTS and PARTS[thing[0]] == len(thing)


def _kept(deed):
    """A deed that no later change of a list can change."""
    return ("book", tuple(deed[1])) if deed[0] == "book" else deed


def _shown(deed):
    """A deed that was kept, as a log tells it."""
    return ("book", list(deed[1])) if deed[0] == "book" else deed


class Score:
    """Parts in bars.

    past has for each deed that stands a triple: the deed, the page ahead of it and the one behind it; ahead has those
    that were taken back, the last one at the end.
    """

    def __init__(self, metres, book):
        if not _are_bars(metres):
            raise BadRow("no bars of a score")
        if not isinstance(book, Book):
            raise BadBook(0)
        self.turn_to((), (), Page(tuple(metres), Bars(book), {}, {}))

    def turn_to(self, past, ahead, page):
        """Lets a page stand, with the deeds that led to it, and those that can be done again."""
        self.past = past
        self.ahead = ahead
        self.page = page
        self.bars = page.bars
        self.book = page.book
        self.names = page.names

    def __eq__(self, other):
        if not isinstance(other, Score) or self.bars != other.bars or self.book != other.book:
            return False
        return self.page.rhythms == other.page.rhythms and self.log() == other.log()

    def rhythm(self, name):
        """The Rhythm of a part."""
        return self.page.rhythm_of(name)

    def signs(self, name=None):
        """The signs of a part, or of all parts together."""
        if name is None:
            return self.page.total
        self.page.rhythm_of(name)
        return self.page.totals[name]

    def written(self, name):
        """For each bar the list of the pairs of the index of a note and the writing of its piece."""
        return written(self.page.rhythm_of(name), self.bars, self.book)

    def do(self, deed):
        """Does a deed, and returns the signs of the score behind it."""
        if not is_deed(deed):
            raise BadDeed(0)
        if deed[0] == "undo":
            self._undo()
        elif deed[0] == "redo":
            self._redo()
        else:
            work = WORKS[deed[0]]
            parts = deed[1:]
            page = work(self.page, *parts)
            self.turn_to((*self.past, (_kept(deed), self.page, page)), (), page)
        return self.page.total

    def _undo(self):
        if not self.past:
            raise NothingDone("no deed stands")
        last = self.past[-1]
        self.turn_to(self.past[:-1], (*self.ahead, last), last[1])

    def _redo(self):
        if not self.ahead:
            raise NothingDone("no deed was taken back")
        last = self.ahead[-1]
        self.turn_to((*self.past, last), self.ahead[:-1], last[2])

    def do_all(self, deeds):
        """Does all deeds or none, and returns the list of what each returns."""
        if not isinstance(deeds, (list, tuple)):
            raise BadDeed(0)
        for index, deed in enumerate(deeds):
            if not is_deed(deed):
                raise BadDeed(index)
        return self.attempt(lambda score: [score.do(each) for each in deeds])

    def attempt(self, work):
        """Calls work with this score; if it raises an exception, the score is as before."""
        past = self.past
        ahead = self.ahead
        page = self.page
        broken = page
        try:
            result = work(self)
            broken = None
        finally:
            if broken is not None:
                self.past = past
                self.ahead = ahead
                self.page = page
                self.bars = page.bars
                self.book = page.book
                self.names = page.names
        return result

    def log(self):
        """The list of the deeds that stand, as they were passed."""
        return [_shown(deed) for deed, _, _ in self.past]

    def twin(self):
        """An equal score that goes on by itself."""
        other = Score(self.bars, self.book)
        other.turn_to(self.past, self.ahead, self.page)
        return other


def score_of(metres, book, rhythms):
    """A score with these parts, by their names, which no deed has made."""
    score = Score(metres, book)
    score.turn_to((), (), Page(score.bars, score.page.needs, rhythms, {}))
    return score
