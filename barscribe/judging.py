"""Journals and written parts, judged by doing and counting again."""

from barscribe.errors import BadJournal, RhythmError
from barscribe.metres import is_number
from barscribe.moving import pieces
from barscribe.scores import Score
from barscribe.writings import is_writing


def journal_of(score):
    """The list of the pairs of a deed of the log and the signs of the score behind it."""
    return [(deed, behind.total) for deed, (_, _, behind) in zip(score.log(), score.past)]


def first_wrong(metres, book, journal):
    """None, or the index of the first item of a journal that is wrong."""
    return _done(Score(metres, book), journal)


def replayed(metres, book, journal):
    """The Score behind a journal."""
    score = Score(metres, book)
    wrong = _done(score, journal)
    if wrong is not None:
        raise BadJournal(wrong)
    return score


def _done(score, journal):
    """Does the deeds of a journal; None, or the index of the first item that is wrong."""
    if not isinstance(journal, (list, tuple)):
        return 0
    for index, item in enumerate(journal):
        if not isinstance(item, tuple) or len(item) != 2 or not is_number(item[1]):
            return index
        try:
            found = score.do(item[0])
        except RhythmError:
            return index
        if found != item[1]:
            return index
    return None


def is_written(score, name, value):
    """Whether any value has for each bar a writing with the fewest signs of each piece of a part."""
    bars = pieces(score.rhythm(name), score.bars)
    if not isinstance(value, (list, tuple)) or len(value) != len(bars):
        return False
    return all([_is_bar(score, metre, bar, part) for metre, bar, part in zip(score.bars, bars, value)])


def _is_bar(score, metre, bar, thing):
    """Whether any value is a list of the writings of the pieces of a bar."""
    if not isinstance(thing, (list, tuple)) or len(thing) != len(bar):
        return False
    return all([_is_piece(score, metre, piece, pair) for piece, pair in zip(bar, thing)])


def _is_piece(score, metre, piece, thing):
    """Whether any value is a pair of the index of the note and a writing of its piece with the fewest signs."""
    index, x, y = piece
    if not isinstance(thing, tuple) or len(thing) != 2 or not is_number(thing[0]) or thing[0] != index:
        return False
    points = thing[1]
    if not is_writing(metre, score.book, points) or points[0] != x or points[-1] != y:
        return False
    return len(points) - 1 == score.page.needs.signs_of(metre, x, y)
