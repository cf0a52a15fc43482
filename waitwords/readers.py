"""Things by their texts, as "waitwords/texts.py" shows them."""

from waitwords.books import Book
from waitwords.errors import InvalidReading, Unreadable, WaitError
from waitwords.kindtexts import entries_in, kind_in, row_in
from waitwords.papertexts import paper_in
from waitwords.readingchecks import check_shape
from waitwords.treetexts import reading_in, tree_in


def read_kind(text):
    """Return the kind that has a text."""
    return _found(kind_in(text), text)


def read_row(text):
    """Return the row that has a text."""
    return _found(row_in(text), text)


def read_reading(text):
    """Return the reading that has a text."""
    reading = _found(reading_in(text), text)
    try:
        check_shape(reading)
    except InvalidReading:
        raise Unreadable(text) from None
    return reading


def read_paper(text):
    """Return the paper that has a text."""
    return _found(paper_in(text), text)


def read_tree(text):
    """Return the tree that has a text."""
    return _found(tree_in(text), text)


def read_book(text):
    """Return the book that has a text."""
    entries = _found(entries_in(text), text)
    try:
        return Book(entries)
    except WaitError:
        raise Unreadable(text) from None


def _found(thing, text):
    """Return a thing; raise Unreadable for a text if there is none."""
    if thing is None:
        raise Unreadable(text)
    return thing
