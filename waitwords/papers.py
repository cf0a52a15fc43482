"""Papers: what they show, papers for rows, papers without "cut", and what papers and readings have of each other."""

from waitwords.errors import InvalidPaper
from waitwords.kindchecks import check_row, check_single
from waitwords.lengthening import long_reading
from waitwords.linkedpapers import paper_by_marks
from waitwords.marks import marked_by_paper, marked_by_reading
from waitwords.paperchecks import check_papers
from waitwords.paperparts import is_cut_free, reading_by_paper, turn_paper
from waitwords.papersearch import found_paper
from waitwords.readingchecks import check_readings_of_row


def shown(paper):
    """Return the tuple (row, kind) that a paper shows."""
    return check_papers([paper])[0][-1]


def paper_for(row, kind):
    """Return a paper without "cut" that shows a row and a kind, None if there is none."""
    check_row(row, [kind])
    return found_paper(row, kind)


def has_cut(paper):
    """Tell whether a "cut" stands in a paper."""
    check_papers([paper])
    return not is_cut_free(paper)


def without_cut(paper):
    """Return a paper without "cut" that shows the same and links the same letters."""
    check_papers([paper])
    if is_cut_free(paper):
        return paper
    row, kind, table = marked_by_paper(paper)
    return paper_by_marks(row, kind, table)


def put_behind(one, other):
    """Return a paper for the row of one paper and the kind of another one, whose row is the kind of the one."""
    told, wanted = check_papers([one, other])
    if wanted[-1][0] != [told[-1][1]]:
        raise InvalidPaper(other)
    return ("cut", 0, other, one)


def turned_paper(paper):
    """Return a paper for the turned row and the turned kind."""
    check_papers([paper])
    return turn_paper(paper)


def reading_of_paper(paper):
    """Return the long form of the reading of a paper."""
    told = check_papers([paper])[0]
    for row, kind in told:
        check_single(row + [kind])
    return long_reading(told[-1][0], reading_by_paper(paper))


def paper_of(row, reading):
    """Return a paper without "cut" that shows a row and the kind of a reading, and links what the reading links."""
    check_readings_of_row(row, [reading])
    marked_row, kind, table = marked_by_reading(row, reading)
    return paper_by_marks(marked_row, kind, table)
