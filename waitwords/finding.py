"""Which rows come to which kinds, and by which readings; kinds to which two lead, and that lead to two."""

from waitwords.errors import InvalidNumber, NotLeading
from waitwords.kindchecks import check_kinds, check_row, check_single_row
from waitwords.papersearch import PaperSearch, found_paper
from waitwords.readingsearch import found_readings
from waitwords.singlekinds import check_signs, single_kinds
from waitwords.texts import show_reading


def comes_to(row, kind):
    """Tell whether a row comes to a kind."""
    check_row(row, [kind])
    return found_paper(row, kind) is not None


def leads_to(one, other):
    """Tell whether a kind leads to another one."""
    check_kinds([one, other])
    return _leads(one, other)


def same_kinds(one, other):
    """Tell whether two kinds lead to each other."""
    check_kinds([one, other])
    return _leads(one, other) and _leads(other, one)


def readings_of(row, kind):
    """Return the list of all long readings of a row that show a kind, ascending by their texts."""
    check_single_row(row, [kind])
    return sorted(found_readings(row, kind), key=show_reading)


def how_many(row, kind):
    """Return how many long readings of a row show a kind."""
    check_single_row(row, [kind])
    return len(found_readings(row, kind))


def kinds_of(row, signs, most):
    """Return the list of the single kinds of at most so many letters out of a text to which a row comes.

    They ascend by how many letters stand in them, and then by their texts.
    """
    check_single_row(row, [])
    check_signs(signs, 3)
    if most not in (1, 2, 3):
        raise InvalidNumber(most)
    search = PaperSearch()
    return [kind for kind in single_kinds(signs, most) if search.paper_for_kinds(row, kind) is not None]


def above(one, other, low):
    """Return a kind to which two kinds lead, to which another one leads."""
    check_kinds([one, other, low])
    for kind in (one, other):
        if not _leads(low, kind):
            raise NotLeading(kind)
    return ("behind", ("ahead", ("behind", low, one), low), ("ahead", other, low))


def below(one, other, high):
    """Return a kind that leads to two kinds, which lead to another one."""
    check_kinds([one, other, high])
    for kind in (one, other):
        if not _leads(kind, high):
            raise NotLeading(kind)
    return ("with", ("with", ("behind", one, high), high), ("ahead", high, other))


def _leads(one, other):
    """Tell whether a kind leads to another one, once both are checked."""
    return found_paper([one], other) is not None
