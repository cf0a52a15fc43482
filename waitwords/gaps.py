"""What is missing in a row: what must stand behind, ahead and between, and which kinds and words fill a gap."""

from waitwords.bookchecks import check_asked
from waitwords.bookrows import ListSearch, lists_of_words
from waitwords.errors import InvalidNumber, InvalidPlace
from waitwords.kindchecks import check_kinds, check_not_empty, check_row
from waitwords.papersearch import PaperSearch
from waitwords.singlekinds import check_signs, single_kinds


def need_behind(row, kind):
    """Return the kind that must stand behind a row, or what leads to it, for the row to come to a kind."""
    check_row(row, [kind])
    return ("ahead", _put_together(row), kind)


def need_ahead(row, kind):
    """Return the kind that must stand ahead of a row, or what leads to it, for the row to come to a kind."""
    check_row(row, [kind])
    return ("behind", kind, _put_together(row))


def need_between(before, after, kind):
    """Return the kind that must stand between two rows, or what leads to it, for all to come to a kind."""
    check_kinds(before + after + [kind])
    check_not_empty(before)
    check_not_empty(after)
    return ("behind", ("ahead", _put_together(before), kind), _put_together(after))


def fillers(row, at, kind, signs, most):
    """Return the list of the single kinds that make a row come to a kind, if they are put in ahead of a place.

    They are taken and ordered as those of `kinds_of`.
    """
    check_row(row, [kind])
    _check_place(at, row)
    check_signs(signs, 3)
    if most not in (1, 2, 3):
        raise InvalidNumber(most)
    search = PaperSearch()
    told = single_kinds(signs, most)
    return [one for one in told if search.paper_for_kinds(row[:at] + [one] + row[at:], kind) is not None]


def words_for(book, words, at, kind):
    """Return the ascending list of the words of a book that, put in ahead of a place, make a list come to a kind."""
    check_asked(book, words, kind)
    _check_place(at, words)
    return _words_at(ListSearch(kind), book, words, at)


def completed(book, words, kind, most):
    """Return the first list of at most so many words that, behind a list, makes it come to a kind, None if none."""
    check_asked(book, words, kind)
    if most not in (0, 1, 2):
        raise InvalidNumber(most)
    search = ListSearch(kind)
    for length in range(most + 1):
        for told in lists_of_words(book.words(), length):
            if search.list_comes(book, words + told):
                return told
    return None


def gaps(book, words, kind):
    """Return the list of the tuples (at, words) of all places at which a word makes a list of words come to a kind."""
    check_asked(book, words, kind)
    search = ListSearch(kind)
    found = [(at, _words_at(search, book, words, at)) for at in range(len(words) + 1)]
    return [(at, told) for at, told in found if told]


def _words_at(search, book, words, at):
    """Return the ascending list of the words of a book that, put in ahead of a place, make a list of words come."""
    return [word for word in book.words() if search.list_comes(book, words[:at] + [word] + words[at:])]


def _put_together(row):
    """Return the kinds of a row put together from the left."""
    found = row[0]
    for kind in row[1:]:
        found = ("with", found, kind)
    return found


def _check_place(at, row):
    """Raise InvalidPlace for a place that is not from 0 to the length of a row."""
    if not 0 <= at <= len(row):
        raise InvalidPlace(at)
