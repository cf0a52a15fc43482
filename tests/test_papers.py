"""papers.py: what the functions answer."""

import unittest

from samples import A, AB, AS, B, BC, BOTH, C, LIFT, S, WITH, WORD, Checks, ahead, behind, some_readings
from slowways import ALL, SINGLE, slow_comes, slow_reading, slow_shown, some_papers
from waitwords.errors import InvalidPaper
from waitwords.kinds import lifted, turned, turned_row
from waitwords.papers import has_cut, paper_for, paper_of, put_behind, reading_of_paper, shown, turned_paper, without_cut
from waitwords.readings import kind_of, long_form, turned_reading


def same(kind):
    return ("same", kind)


EASY = ("behind", 0, same(A), same(B))
JOIN = ("join", same(A), same(B))
LIFTING = ("givebehind", ("ahead", 0, same(B), same(A)))
TEXTS = ("givebehind", "giveahead", "join", "behind", "ahead", "part", "cut")
PLACES = (-1, 0, 1, 2, 9)


def together(one, other):
    return ("with", one, other)


def all_papers(most, kinds=(A, AB)):
    """All papers of at most so many tuples with these kinds and some places, also such as show nothing."""
    found = {1: [same(kind) for kind in kinds]}
    for many in range(2, most + 1):
        found[many] = [head + (part,) for part in found[many - 1]
                       for head in [("givebehind",), ("giveahead",)] + [("part", at) for at in PLACES]]
        heads = [("join",)] + [(text, at) for text in ("behind", "ahead", "cut") for at in PLACES]
        found[many] += [head + (one, other) for left in range(1, many - 1)
                        for one in found[left] for other in found[many - 1 - left] for head in heads]
    return [paper for many in found for paper in found[many]]


class Shown(Checks, unittest.TestCase):

    def test_each_form(self):
        self.assert_answer(([A], A), shown, paper=same(A))
        self.assert_answer(([WITH], WITH), shown, paper=same(WITH))
        self.assert_answer(([AB, B], A), shown, paper=EASY)
        self.assert_answer(([A, AS], S), shown, paper=("ahead", 0, same(S), same(A)))
        self.assert_answer(([AB], AB), shown, paper=("givebehind", EASY))
        self.assert_answer(([B], ahead(AB, A)), shown, paper=("giveahead", EASY))
        self.assert_answer(([A, B], WITH), shown, paper=JOIN)
        self.assert_answer(([WITH], WITH), shown, paper=("part", 0, JOIN))
        self.assert_answer(([A], A), shown, paper=("cut", 0, same(A), same(A)))
        self.assert_answer(([AB, BC, C], A), shown, paper=("cut", 1, EASY, ("behind", 0, same(B), same(C))))
        self.assert_answer(([A], lifted(A, B, True)), shown, paper=LIFTING)

    def test_places(self):
        inner = ("join", same(A), ("join", same(B), same(C)))
        kind = together(A, together(B, C))
        self.assert_answer(([behind(A, S), S, B, C], kind), shown, paper=("behind", 0, inner, same(S)))
        self.assert_answer(([A, B, behind(C, WITH), A, B], kind), shown, paper=("behind", 2, inner, JOIN))
        self.assert_answer(([A, B, A, B, ahead(WITH, C)], kind), shown,
                           paper=("ahead", 2, inner, JOIN))
        self.assert_answer(([A, S, ahead(S, B), C], kind), shown, paper=("ahead", 1, inner, same(S)))
        self.assert_answer(([WITH, C], kind), shown, paper=("part", 0, inner))
        self.assert_answer(([A, together(B, C)], kind), shown, paper=("part", 1, inner))
        self.assert_answer(([together(A, together(B, C))], kind), shown, paper=("part", 0, ("part", 1, inner)))
        self.assert_answer(([A, B, C], kind), shown, paper=("cut", 2, inner, same(C)))

    def test_each_form_in_each_other_one(self):
        wide = ("join", same(A), ("join", same(B), ("join", same(C), same(S))))
        inner = {"same": same(A), "givebehind": ("givebehind", wide), "giveahead": ("giveahead", wide), "join": wide,
                 "behind": ("behind", 1, wide, JOIN), "ahead": ("ahead", 2, wide, JOIN), "part": ("part", 2, wide),
                 "cut": ("cut", 1, wide, EASY[:2] + (same(B), same(C)))}
        for text, one in inner.items():
            self.assertEqual(one[0], text)
            row, kind = slow_shown(one)
            around = [(head, one) for head in ("givebehind", "giveahead") if len(row) > 1]
            around += [("join", one, EASY), ("join", EASY, one)]
            around += [("part", at, one) for at in range(len(row) - 1)]
            around += [(head, at, one, JOIN) for head in ("behind", "ahead") for at in range(len(row))]
            around += [(head, at, wide, one) for head in ("behind", "ahead") for at in range(4)]
            around += [("cut", at, one, same(row[at])) for at in range(len(row))] + [("cut", 0, same(kind), one)]
            self.assertEqual({paper[0] for paper in around} | ({"givebehind", "giveahead", "part"}), set(TEXTS))
            for paper in around:
                self.assertIsInstance(slow_shown(paper), tuple)
                self.assert_answer(slow_shown(paper), shown, paper=paper)
                self.check_without(paper)
                self.check_turned(paper)

    def test_all_small_papers(self):
        papers = all_papers(5)
        wrong = 0
        for number, paper in enumerate(papers):
            told = slow_shown(paper)
            if isinstance(told, tuple):
                self.assertEqual(shown(paper), told)
                self.check_without(paper)
                self.check_turned(paper)
                continue
            wrong += 1
            for function in (shown, has_cut, without_cut, turned_paper, reading_of_paper)[:5 if number % 50 == 0 else 1]:
                self.assert_refused(InvalidPaper, told[0], function, paper)
        self.assertGreater(wrong, 10000)
        self.assertGreater(len(papers) - wrong, 250)

    def check_without(self, paper):
        found = without_cut(paper)
        self.assertEqual(slow_shown(found), slow_shown(paper))
        self.assertNotIn("'cut'", repr(found))
        self.assertEqual(has_cut(paper), "'cut'" in repr(paper))
        self.assertFalse(has_cut(found))

    def check_turned(self, paper):
        row, kind = slow_shown(paper)
        self.assertEqual(slow_shown(turned_paper(paper)), (turned_row(row), turned(kind)))

    def test_many_papers(self):
        for paper in some_papers(400, ALL) + some_papers(200, SINGLE):
            self.assertEqual(shown(paper), slow_shown(paper))
            self.check_without(paper)
            self.check_turned(paper)

    def test_has_cut(self):
        self.assert_answer(False, has_cut, paper=same(A))
        self.assert_answer(False, has_cut, paper=EASY)
        self.assert_answer(True, has_cut, paper=("cut", 0, same(A), same(A)))
        cut = ("cut", 0, EASY, same(AB))
        for paper in (("givebehind", cut), ("join", same(S), cut), ("join", cut, same(S)), ("part", 0, cut),
                      ("behind", 0, same(C), cut), ("ahead", 1, cut, same(C)), ("cut", 0, same(A), EASY)):
            self.assert_answer(True, has_cut, paper=paper)

    def test_without_cut(self):
        self.assertEqual(without_cut(paper=EASY), without_cut(EASY))
        for paper in (same(A), EASY, JOIN, ("cut", 0, same(A), same(A)), ("cut", 0, EASY, same(AB)),
                      ("cut", 0, ("part", 0, JOIN), JOIN), ("givebehind", ("cut", 1, EASY, same(B))),
                      ("cut", 1, ("ahead", 0, same(lifted(A, B, True)), same(S)), same(ahead(S, lifted(A, B, True)))),
                      ("cut", 0, ("cut", 0, same(A), EASY), ("cut", 0, same(AB), same(AB)))):
            self.check_without(paper)


class ForRows(Checks, unittest.TestCase):

    def test_paper_for(self):
        for row, kind in (([A], A), ([AB, B], A), ([A, AS], S), ([AB], AB), ([A, B], WITH), ([WITH], WITH),
                          ([A], lifted(A, B, True)), ([A], lifted(A, B, False)), ([AB, BC], behind(A, C)),
                          ([WITH, C], together(A, together(B, C))), ([behind(A, WITH)], behind(behind(A, B), A)),
                          ([A, B, ahead(WITH, S)], S)):
            before = list(row)
            found = paper_for(row, kind)
            self.assertEqual(paper_for(row=row, kind=kind), found)
            self.assertEqual(row, before)
            self.assertEqual(found is not None, slow_comes(tuple(row), kind))
            if found is not None:
                self.assertEqual(slow_shown(found), (row, kind))
                self.assertFalse(has_cut(found))

    def test_paper_for_what_does_not_come(self):
        for row, kind in (([B, AB], A), ([A], B), ([A], WITH), ([A, A], A), ([WITH], A), ([B, A], WITH),
                          ([behind(A, behind(A, A))], A), ([behind(A, A)], behind(B, B)), ([A], behind(behind(A, B), B)),
                          ([lifted(A, B, True)], A), ([WITH], together(B, A)), ([A, AB, B], together(B, A))):
            self.assert_answer(None, paper_for, row=row, kind=kind)
            self.assertFalse(slow_comes(tuple(row), kind))

    def test_nothing_comes_of_no_kind_at_all(self):
        # With an empty row for Q these would come.
        self.assert_answer(None, paper_for, row=[behind(A, behind(B, B))], kind=A)
        self.assert_answer(None, paper_for, row=[A], kind=together(A, behind(B, B)))
        self.assert_answer(None, paper_for, row=[A], kind=together(behind(B, B), A))

    def test_put_behind(self):
        for one, other in ((same(A), same(A)), (EASY, LIFTING), (JOIN, ("part", 0, JOIN)), (LIFTING, same(lifted(A, B, True))),
                           (("cut", 0, EASY, same(AB)), LIFTING)):
            found = put_behind(one, other)
            self.assertEqual(slow_shown(found), (slow_shown(one)[0], slow_shown(other)[1]))
            self.assertEqual(slow_shown(put_behind(one=one, other=other)), slow_shown(found))
            self.check_further(found)

    def check_further(self, found):
        self.assertEqual(slow_shown(without_cut(found)), shown(found))
        self.assertEqual(slow_shown(put_behind(found, same(shown(found)[1]))), shown(found))

    def test_turned_paper(self):
        for paper in (same(AB), EASY, JOIN, LIFTING, ("part", 0, JOIN), ("cut", 1, EASY, same(B)),
                      ("part", 1, ("join", same(A), JOIN)), ("behind", 1, JOIN, JOIN), ("ahead", 1, JOIN, JOIN)):
            row, kind = slow_shown(paper)
            found = turned_paper(paper)
            self.assertEqual(slow_shown(found), (turned_row(row), turned(kind)))
            self.assertEqual(slow_shown(turned_paper(paper=paper)), slow_shown(found))
            self.assertEqual(slow_shown(turned_paper(found)), (row, kind))


class Readings(Checks, unittest.TestCase):

    def test_reading_of_paper(self):
        self.assert_answer(WORD, reading_of_paper, paper=same(A))
        self.assert_answer(BOTH, reading_of_paper, paper=EASY)
        self.assert_answer(("givebehind", B, BOTH), reading_of_paper, paper=same(AB))
        self.assert_answer(LIFT, reading_of_paper, paper=LIFTING)
        self.assert_answer(("giveahead", AB, BOTH), reading_of_paper, paper=("giveahead", EASY))
        self.assert_answer(("ahead", WORD, WORD), reading_of_paper, paper=("ahead", 0, same(S), same(A)))
        self.assert_answer(("behind", WORD, BOTH), reading_of_paper,
                           paper=("cut", 1, EASY, ("behind", 0, same(B), same(C))))
        self.assert_answer(BOTH, reading_of_paper, paper=("cut", 0, EASY, ("givebehind", EASY)))
        twice = ("behind", 0, ("behind", 0, same(A), same(B)), same(C))
        self.assert_answer(("behind", ("behind", WORD, WORD), WORD), reading_of_paper, paper=twice)
        self.assert_answer(("behind", ("ahead", WORD, WORD), WORD), reading_of_paper,
                           paper=("ahead", 0, ("behind", 0, same(S), same(B)), same(A)))

    def test_readings_by_the_words_of_the_document(self):
        cuts = 0
        for paper in some_papers(300, SINGLE):
            row, _ = shown(paper)
            cuts += has_cut(paper)
            found = reading_of_paper(paper)
            self.assertEqual(found, long_form(row, slow_reading(paper)))
            self.assertEqual(found, reading_of_paper(without_cut(paper)))
            self.assertEqual(turned_reading(found), reading_of_paper(turned_paper(paper)))
        self.assertGreater(cuts, 100)

    def test_paper_of(self):
        for row, reading in (([A], WORD), ([AB, B], BOTH), ([A], LIFT), ([AB], WORD), ([AB], ("givebehind", B, BOTH)),
                             ([AB, B], ("behind", ("givebehind", B, BOTH), WORD)),
                             ([behind(A, AB), AB], BOTH)):
            before = list(row)
            found = paper_of(row, reading)
            self.assertEqual(row, before)
            self.assertEqual(slow_shown(found), (row, kind_of(row, reading)))
            self.assertEqual(slow_shown(paper_of(row=row, reading=reading)), slow_shown(found))
            self.assertFalse(has_cut(found))
            self.assertEqual(long_form(row, slow_reading(found)), long_form(row, reading))

    def test_paper_of_many_readings(self):
        for row, reading in some_readings(300):
            found = paper_of(row, reading)
            self.assertEqual(slow_shown(found), (row, kind_of(row, reading)))
            self.assertFalse(has_cut(found))
            self.assertEqual(reading_of_paper(found), long_form(row, reading))
            self.assertEqual(long_form(row, slow_reading(found)), long_form(row, reading))


if __name__ == "__main__":
    unittest.main()
