"""The checks of papers that the functions of the program share."""

from waitwords.copies import fresh
from waitwords.errors import InvalidPaper
from waitwords.kindchecks import check_kinds
from waitwords.paperparts import indexes_in_paper, is_paper_part, kinds_in, meets, shown_by_part
from waitwords.walks import folded


def shown_parts(paper):
    """Return the list of the tuples (row, kind) that the parts show, those within a part ahead of it, from the left.

    InvalidPaper is raised for the first part that shows nothing.
    """
    found = []

    def told(part, made):
        if not is_paper_part(part):
            raise InvalidPaper(fresh(part))
        shown = shown_by_part(part, made)
        if shown is None or part[0] == "cut" and not meets(part, made):
            raise InvalidPaper(part)
        found.append(shown)
        return shown

    folded(paper, indexes_in_paper, told)
    return found


def check_papers(papers):
    """Check papers; return for each one the list of what its parts show."""
    for paper in papers:
        check_kinds(kinds_in(paper))
    return [shown_parts(paper) for paper in papers]
