"""How long the slowest calls within the bounds of [2] take."""

import time
import unittest

from samples import A, AB, B, BOTH, WORD, ahead, behind, some_readings
from slowways import ALL, some_papers
from waitwords import cancelling, finding, links, middles, papers, readings, terms, values

# A thousand calls that take no longer than this can be asked.
LONGEST = 0.1


def together(one, other):
    return ("with", one, other)


AA, TURN = behind(A, A), ahead(A, A)
# Rows of six kinds, fourteen letters, all of them one: nothing can be ruled out by counting.
ROWS = [
    ([AA, AA, AA, A, TURN, ahead(behind(A, ahead(A, A)), A)], A),
    ([AA, behind(A, behind(A, TURN)), AA], behind(behind(behind(A, TURN), TURN), A)),
    ([A, ahead(A, behind(A, A)), AA, AA, A], behind(behind(A, TURN), TURN)),
    ([AA, A, behind(TURN, A), A], ahead(AA, behind(behind(A, TURN), TURN))),
    ([A, TURN, TURN, TURN, TURN, TURN], behind(AA, A)),
    ([A, TURN, TURN, TURN, TURN, behind(A, behind(A, AA))], A),
    ([behind(behind(AA, A), behind(AA, A)), behind(AA, AA)], behind(A, AA)),
]
WITHS = [
    ([together(A, A), together(A, A), together(A, A)], together(together(A, together(A, A)), A)),
    ([behind(A, together(A, A)), together(A, A), together(A, ahead(together(A, A), A))], A),
    ([AA, together(AA, A), A, TURN], together(A, A)),
    ([together(A, A), AA, A], behind(together(together(A, A), A), A)),
]


class Times(unittest.TestCase):

    def check(self, function, *told):
        """The quickest of three calls is quick enough."""
        taken = []
        for _ in range(3):
            start = time.perf_counter()
            found = function(*told)
            taken.append(time.perf_counter() - start)
            if taken[-1] < LONGEST:
                break
        self.assertLess(min(taken), LONGEST, (function.__name__, told))
        return found

    def test_papers_for_rows(self):
        for row, kind in ROWS + WITHS:
            found = self.check(papers.paper_for, row, kind)
            if found is not None:
                self.check(papers.without_cut, papers.put_behind(found, ("same", kind)))

    def test_papers(self):
        told = some_papers(300, ALL)
        deepest = papers.paper_for([A], behind(A, ahead(A, A)))
        for _ in range(45):
            deepest = ("cut", 0, deepest, ("same", A))
        for paper in told + [deepest]:
            for function in (papers.shown, papers.has_cut, papers.without_cut, papers.turned_paper):
                self.check(function, paper)
        self.check(papers.reading_of_paper, deepest)

    def test_readings_and_terms(self):
        chain, back = WORD, BOTH
        for _ in range(19):
            chain = ("behind", WORD, chain)
        for _ in range(9):
            back = ("behind", ("givebehind", B, back), WORD)
        told = [([AA] * 19 + [A], chain), ([AB, B], back)] + some_readings(100)
        for row, reading in told:
            self.check(papers.paper_of, row, reading)
            for function in (readings.long_form, readings.is_long, readings.kind_of):
                self.check(function, row, reading)
            names = ["n" + "abcdefghijklmnopqrstuvwxyz"[at] for at in range(len(row))]
            term = self.check(terms.term_of, reading, names)
            for function in (terms.reading_of, terms.names_of, terms.term_step, terms.short_term):
                self.check(function, term)
            self.check(terms.put_for, term, names[0], ("behind", ("name", "a"), ("name", "b")))

    def test_values(self):
        nine = behind(behind(A, B), B)
        sizes = [("a", 3), ("b", 2), ("c", 1)]
        c = ("plain", "c")
        self.check(values.how_many_things, behind(behind(A, nine), nine), sizes)
        self.check(values.how_many_things, behind(behind(behind(A, AB), AB), AB), sizes)
        self.check(values.things, nine, sizes)
        self.check(values.place_of, nine, sizes, [[2, 2], [2, 2]])
        back, twice = BOTH, ("behind", ("behind", WORD, WORD), WORD)
        for _ in range(10):
            back = ("behind", ("givebehind", B, back), WORD)
        self.check(values.worths, [AB, B], back, sizes)
        self.check(values.worths, [nine, B], ("givebehind", B, twice), sizes)
        self.check(values.first_unlike_worth, [nine, B], BOTH, ("behind", ("givebehind", B, BOTH), WORD), sizes)
        # Of the two given kinds, the one has 81 things and the other one 16.
        sixteen = behind(behind(B, B), B)
        self.check(values.worths, [behind(behind(c, sixteen), nine)],
                   ("givebehind", nine, ("givebehind", sixteen, twice)), sizes)
        self.check(values.worths, [A], ("givebehind", ahead(A, A), ("ahead", WORD, WORD)), sizes)

    def test_finding(self):
        for row, kind in ROWS + WITHS:
            self.check(finding.comes_to, row, kind)
            self.check(cancelling.plain_readings, row, kind)
            self.check(cancelling.chart, row)
            for start, end in ((0, 1), (0, len(row)), (len(row) - 1, len(row)), (len(row) // 2, len(row))):
                self.check(middles.middle, row, start, end, kind)
                self.check(middles.middle_papers, row, start, end, kind)
        for row, kind in ROWS:
            self.check(finding.how_many, row, kind)
            for reading in self.check(finding.readings_of, row, kind):
                told = self.check(links.links, row, kind, reading)
                self.check(links.reading_by, row, kind, told)
                self.check(links.is_crossed, told)
            self.check(links.line, row, kind)
            self.check(links.owners, row, kind)

    def test_kinds_of(self):
        c = ("plain", "c")
        for row in ([AA, AA, AA, A, TURN], [AA] * 4 + [A, TURN], [A], [AB, behind(B, c), c], [behind(behind(AA, AA), AA)]):
            for signs in ("a", "ab", "abc"):
                self.check(finding.kinds_of, row, signs, 3)

    def test_kinds_above_and_below(self):
        two = [AA, TURN, together(A, A)]
        for low in two:
            for one in two:
                if not finding.leads_to(low, one):
                    continue
                high = self.check(finding.above, one, one, low)
                deep = self.check(finding.below, low, low, one)
                for kind in two:
                    self.check(finding.leads_to, kind, high)
                    self.check(finding.leads_to, high, kind)
                    self.check(finding.leads_to, deep, kind)
                    self.check(papers.paper_for, [kind], high)
                    self.check(papers.paper_for, [deep], kind)


if __name__ == "__main__":
    unittest.main()
