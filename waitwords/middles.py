"""Kinds in the middle: what a stretch of a row comes to, so that the row with it in its place comes to a kind."""

from waitwords.errors import InvalidPlace
from waitwords.kindchecks import check_row
from waitwords.middlepapers import middle_of_paper
from waitwords.papersearch import found_paper


def middle(row, start, end, kind):
    """Return a kind in the middle of a stretch of a row and the rest, None if the row does not come to the kind."""
    found = middle_papers(row, start, end, kind)
    return None if found is None else found[0]


def middle_papers(row, start, end, kind):
    """Return the tuple (M, paper, paper) of a kind in the middle, None if the row does not come to the kind.

    The first paper shows the stretch and M, the second one the row with M in its place, and the kind.
    """
    check_row(row, [kind])
    if not 0 <= start < len(row):
        raise InvalidPlace(start)
    if not start < end <= len(row):
        raise InvalidPlace(end)
    paper = found_paper(row, kind)
    return None if paper is None else middle_of_paper(paper, start, end)
