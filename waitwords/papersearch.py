"""The search for papers without "cut"."""

from waitwords.kindnumbers import KindNumbers
from waitwords.lasttuples import last_tuples


class PaperSearch:
    """What was found out of rows and kinds, told by the numbers of one `KindNumbers`, for any number of questions."""

    def __init__(self):
        self.numbers = KindNumbers()
        self.found = {}

    def paper_for_kinds(self, row, kind):
        """Return a paper without "cut" that shows a row and a kind, None if there is none."""
        numbered = self.numbers.row_numbers(row)
        goal = self.numbers.number(kind)
        if not self.numbers.have_one_spelling(numbered, goal):
            return None
        return self.paper(numbered, goal)

    def paper(self, row, goal):
        """Return a paper for a row and a kind that have one word, None if there is none."""
        key = (row, goal)
        if key not in self.found:
            self.found[key] = self.first_paper(row, goal)
        return self.found[key]

    def first_paper(self, row, goal):
        """Return the first paper of those that `last_tuples` tells, None if there is none."""
        for head, inner in last_tuples(self.numbers, row, goal):
            papers = self.all_papers(inner)
            if papers is not None:
                return head + papers
        return None

    def all_papers(self, inner):
        """Return the tuple of papers for some rows and kinds, None if there is one without."""
        papers = ()
        for row, goal in inner[::-1]:
            paper = self.paper(row, goal)
            if paper is None:
                return None
            papers = (paper,) + papers
        return papers


def found_paper(row, kind):
    """Return a paper without "cut" that shows a row and a kind, None if there is none."""
    return PaperSearch().paper_for_kinds(row, kind)
