"""Links: the line of a row and an asked kind, and which of its letters a reading links."""

from waitwords.errors import InvalidLinks, InvalidReading
from waitwords.kindchecks import check_single_row
from waitwords.lengthening import long_reading
from waitwords.linkedpapers import paper_by_marks
from waitwords.lines import letters_in_line, line_links, line_owners, links_like_letters, marked_by_links
from waitwords.paperparts import reading_by_paper
from waitwords.readingchecks import check_shown
from waitwords.readingparts import given_kinds


def line(row, kind):
    """Return the text of the letters of a row as they stand, and of a kind as it is asked."""
    check_single_row(row, [kind])
    return "".join(letters_in_line(row, kind))


def links(row, kind, reading):
    """Return the ascending list of the tuples of two places of the line that the long form of a reading links."""
    check_single_row(row, [kind] + given_kinds(reading))
    if check_shown(row, reading) != kind:
        raise InvalidReading(reading)
    return line_links(row, kind, reading)


def reading_by(row, kind, told):
    """Return the long reading that makes told links, None if there is none."""
    check_single_row(row, [kind])
    if not _are_pairs(told) or _places(told) != list(range(len(letters_in_line(row, kind)))):
        raise InvalidLinks(list(told))
    if not links_like_letters(row, kind, told):
        return None
    marked_row, marked_kind, table = marked_by_links(row, kind, told)
    paper = paper_by_marks(marked_row, marked_kind, table)
    return None if paper is None else long_reading(row, reading_by_paper(paper))


def is_crossed(told):
    """Tell whether two links of a list cross."""
    places = _places(told)
    if not _are_pairs(told) or places != sorted(set(places)):
        raise InvalidLinks(list(told))
    return any([low < start < high < end for low, high in told for start, end in told])


def owners(row, kind):
    """Return for each place of the line the place of its kind in the row, the row's length for the asked one."""
    check_single_row(row, [kind])
    return line_owners(row, kind)


def _are_pairs(told):
    """Tell whether links ascend and are tuples of integers from 0 on, the lesser one first."""
    return list(told) == sorted(told) and all([0 <= low < high for low, high in told])


def _places(told):
    """Return the ascending list of all places that links tell."""
    return sorted([place for pair in told for place in pair])
