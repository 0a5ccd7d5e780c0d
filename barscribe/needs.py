"""The shapes that a book can lose without changing the number of signs of any note."""

from barscribe.alike import compared
from barscribe.far import Far, last_place
from barscribe.shapes import Book
from barscribe.states import Machine
from barscribe.writings import check_note


def needless(metre, book, *, most=5000):
    """The ascending tuple of the needless shapes."""
    return tuple([told for told, note in _parting_notes(metre, book, most).items() if note is None])


def least_books(metre, book, *, most=5000):
    """From each least book to the notes that show that it needs each of its shapes."""
    # Each sign alone is a writing of its note, and no other writing of this note has one sign. So a shape is needless
    # only if no sign of the metre has it; shapes that are needless are so together, and there is one least book.
    needs = {told: note for told, note in _parting_notes(metre, book, most).items() if note is not None}
    return {tuple(needs): needs}


def _parting_notes(metre, book, most):
    """From each shape that is not plain to the least note that has more signs in the book without it, or None."""
    machine = Machine(metre, book)
    found = {}
    for told in book.extra:
        answer = compared(machine, Machine(metre, book - Book([told])), most)
        found[told] = answer[1:] if answer[0] == "parted" else None
    return found


def used(metre, book, x, y):
    """The shapes, not plain, that occur in all writings of a note with the fewest signs, and in some of them."""
    check_note(metre, x, y)
    signs, many = _fewest(metre, book, x, y)
    in_all = []
    in_some = []
    for told in book.extra:
        # The writings without a shape are those by the book without it.
        signs_without, many_without = _fewest(metre, book - Book([told]), x, y)
        if signs_without > signs:
            in_all.append(told)
        if signs_without > signs or many_without < many:
            in_some.append(told)
    return tuple(in_all), tuple(in_some)


def _fewest(metre, book, x, y):
    """The fewest signs of a note, and how many writings have so many."""
    return Far(metre, book, last_place(y)).entry_of(x, y, False)[:2]
