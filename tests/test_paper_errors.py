"""papers.py: what the functions refuse, and which error comes first."""

import unittest

from samples import A, AB, B, BOTH, C, DEEP_WITH, LIFT, ODD, S, WITH, WORD, Checks, ahead, behind
from waitwords.errors import InvalidKind, InvalidPaper, InvalidReading, InvalidRow, NotSingle
from waitwords.papers import has_cut, paper_for, paper_of, put_behind, reading_of_paper, shown, turned_paper, without_cut

BAD = ("plain", "B")
WORSE = ("plain", "")


def same(kind):
    return ("same", kind)


EASY = ("behind", 0, same(A), same(B))
JOIN = ("join", same(A), same(B))
NARROW = ("givebehind", same(A))
OF_A_PAPER = [
    shown, has_cut, without_cut, turned_paper, reading_of_paper,
    lambda paper: put_behind(paper, same(A)), lambda paper: put_behind(one=same(A), other=paper),
]


class APaper(Checks, unittest.TestCase):

    def assert_all_refuse(self, error, value, paper):
        for function in OF_A_PAPER:
            self.assert_refused(error, value, function, paper)
        for function in OF_A_PAPER[:5]:
            self.assert_refused(error, value, function, paper=paper)

    def test_invalid_kind(self):
        self.assert_all_refuse(InvalidKind, BAD, same(BAD))
        self.assert_all_refuse(InvalidKind, ODD, same(ODD))
        self.assert_all_refuse(InvalidKind, WORD, same(behind(A, WORD)))
        for around in (("givebehind",), ("giveahead",), ("part", 0), ("part", -1), ("join", same(A)),
                       ("behind", 0, same(A)), ("ahead", 7, same(A)), ("cut", 0, same(A))):
            self.assert_all_refuse(InvalidKind, BAD, around + (same(behind(A, BAD)),))
        for around in ("behind", "ahead", "cut"):
            self.assert_all_refuse(InvalidKind, BAD, (around, 0, same(ahead(BAD, WORSE)), same(WORSE)))
        self.assert_all_refuse(InvalidKind, ODD, ("join", same(ODD), same(BAD)))

    def test_the_first_kind_from_the_left(self):
        inner = ("cut", 3, ("join", same(A), same(WORSE)), same(BAD))
        self.assert_all_refuse(InvalidKind, WORSE, inner)
        self.assert_all_refuse(InvalidKind, BAD, ("join", ("givebehind", same(("with", A, BAD))), inner))

    def test_invalid_kind_comes_ahead_of_invalid_paper(self):
        self.assert_all_refuse(InvalidKind, BAD, ("join", NARROW, same(BAD)))
        self.assert_all_refuse(InvalidKind, BAD, ("join", ODD, same(BAD)))
        self.assert_all_refuse(InvalidKind, BAD, ("givebehind", same(BAD)))

    def test_another_first_text(self):
        for part in (ODD, A, WITH, WORD, ("name", "x"), ("",), ("Same", A), ("odd", same(BAD))):
            self.assert_all_refuse(InvalidPaper, part, part)
            for around in (("givebehind",), ("giveahead",), ("part", 0), ("join", same(A)), ("behind", 0, same(A)),
                           ("ahead", 0, EASY), ("cut", 9, same(A))):
                self.assert_all_refuse(InvalidPaper, part, around + (part,))

    def test_lists_in_what_an_error_holds_are_new(self):
        shared = [1]
        with self.assertRaises(InvalidPaper) as caught:
            shown(("join", same(A), ("odd", shared, [shared])))
        self.assertEqual(caught.exception.value, ("odd", [1], [[1]]))
        self.assert_unshared(caught.exception.value, shared)

    def test_gives_of_a_row_of_one_kind(self):
        for text in ("givebehind", "giveahead"):
            for inner in (same(A), same(AB), ("part", 0, JOIN), (text, EASY), (text, JOIN)):
                self.assert_all_refuse(InvalidPaper, (text, inner), (text, inner))
                self.assert_all_refuse(InvalidPaper, (text, inner), ("join", same(A), (text, inner)))

    def test_places(self):
        for at in (-5, -2, -1, 2, 3, 100):
            for paper in (("behind", at, JOIN, same(A)), ("ahead", at, JOIN, same(A)), ("cut", at, JOIN, same(B)),
                          ("part", at, JOIN)):
                self.assert_all_refuse(InvalidPaper, paper, paper)
        for at in (-1, 1):
            for paper in (("behind", at, same(A), EASY), ("ahead", at, same(A), EASY), ("cut", at, same(A), EASY)):
                self.assert_all_refuse(InvalidPaper, paper, paper)
        self.assert_all_refuse(InvalidPaper, ("part", 1, JOIN), ("part", 1, JOIN))
        self.assert_all_refuse(InvalidPaper, ("part", 0, same(A)), ("part", 0, same(A)))
        self.assert_all_refuse(InvalidPaper, ("part", 2, ("join", JOIN, same(A))), ("part", 2, ("join", JOIN, same(A))))

    def test_a_cut_of_another_kind(self):
        for paper in (("cut", 0, same(A), same(B)), ("cut", 0, EASY, same(B)), ("cut", 1, EASY, same(A)),
                      ("cut", 0, same(WITH), ("join", same(B), same(A)))):
            self.assert_all_refuse(InvalidPaper, paper, paper)

    def test_parts_within_come_ahead_from_the_left(self):
        other = ("cut", 0, same(A), same(B))
        self.assert_all_refuse(InvalidPaper, NARROW, ("join", NARROW, other))
        self.assert_all_refuse(InvalidPaper, other, ("join", other, NARROW))
        self.assert_all_refuse(InvalidPaper, NARROW, ("cut", -1, ("part", 4, NARROW), ODD))
        self.assert_all_refuse(InvalidPaper, ODD, ("givebehind", ("ahead", 0, ODD, NARROW)))
        self.assert_all_refuse(InvalidPaper, ("part", 4, same(A)), ("cut", -1, ("part", 4, same(A)), ODD))

    def test_both_papers_in_order(self):
        self.assert_refused(InvalidKind, BAD, put_behind, same(BAD), same(WORSE))
        self.assert_refused(InvalidKind, WORSE, put_behind, NARROW, same(WORSE))
        self.assert_refused(InvalidPaper, NARROW, put_behind, NARROW, ODD)
        self.assert_refused(InvalidPaper, ODD, put_behind, EASY, ODD)

    def test_put_behind_of_another_kind(self):
        for one, other in ((EASY, same(B)), (same(A), EASY), (JOIN, EASY), (same(WITH), JOIN), (same(A), same(AB)),
                           (EASY, ("join", same(A), same(A)))):
            self.assert_refused(InvalidPaper, other, put_behind, one, other)
            self.assert_refused(InvalidPaper, other, put_behind, one=one, other=other)


class NotSingleKinds(Checks, unittest.TestCase):

    def test_the_first_kind_with_a_with(self):
        self.assert_refused(NotSingle, WITH, reading_of_paper, same(WITH))
        self.assert_refused(NotSingle, DEEP_WITH, reading_of_paper, paper=same(DEEP_WITH))
        self.assert_refused(NotSingle, WITH, reading_of_paper, JOIN)
        self.assert_refused(NotSingle, WITH, reading_of_paper, ("part", 0, JOIN))

    def test_parts_in_order_of_each_its_row_and_then_its_kind(self):
        other = behind(WITH, C)
        self.assert_refused(NotSingle, other, reading_of_paper, ("join", same(other), same(WITH)))
        self.assert_refused(NotSingle, WITH, reading_of_paper, ("behind", 0, same(A), same(WITH)))
        # The row of the "part" comes ahead of the kind of the whole; both parts of the "behind" are single.
        three = ("behind", 0, ("behind", 0, same(S), same(A)), same(B))
        row, kind = shown(("part", 1, three))
        self.assertEqual(row[1], ("with", B, A))
        self.assert_refused(NotSingle, row[1], reading_of_paper, ("givebehind", ("part", 1, three)))
        join = ("join", EASY, same(C))
        self.assert_refused(NotSingle, ("with", A, C), reading_of_paper, ("givebehind", join))
        self.assert_refused(NotSingle, ("with", A, C), reading_of_paper, ("join", join, same(WITH)))
        self.assert_refused(NotSingle, WITH, reading_of_paper, ("join", same(A), same(WITH)))

    def test_a_with_that_the_whole_does_not_show(self):
        # [A, B] to WITH to WITH: a "cut" takes it away again where a kind takes it.
        taking = ("ahead", 0, same(S), ("join", same(A), same(B)))
        self.assert_refused(NotSingle, WITH, reading_of_paper, taking)
        self.assert_refused(InvalidPaper, NARROW, reading_of_paper, ("join", same(WITH), NARROW))


class Rows(Checks, unittest.TestCase):

    def test_paper_for(self):
        self.assert_refused(InvalidKind, BAD, paper_for, [A, behind(B, BAD), ODD], WORSE)
        self.assert_refused(InvalidKind, BAD, paper_for, [A], behind(BAD, WORSE))
        self.assert_refused(InvalidKind, ODD, paper_for, row=[A], kind=ODD)
        self.assert_refused(InvalidKind, ODD, paper_for, [], ODD)
        self.assert_refused(InvalidRow, [], paper_for, [], A)
        self.assert_refused(InvalidRow, [], paper_for, row=[], kind=WITH)

    def test_paper_of(self):
        give = ("givebehind", BAD, BOTH)
        with_give = ("givebehind", behind(A, WITH), BOTH)
        self.assert_refused(InvalidKind, WORSE, paper_of, [WORSE], give)
        self.assert_refused(InvalidKind, BAD, paper_of, [], give)
        self.assert_refused(InvalidKind, BAD, paper_of, [WITH], ("behind", ODD, give))
        self.assert_refused(InvalidRow, [], paper_of, [], with_give)
        self.assert_refused(InvalidRow, [], paper_of, row=[], reading=ODD)
        self.assert_refused(NotSingle, WITH, paper_of, [A, WITH], with_give)
        self.assert_refused(NotSingle, behind(A, WITH), paper_of, [A], ("behind", ODD, with_give))
        self.assert_refused(InvalidReading, ODD, paper_of, [A], ("behind", WORD, ODD))
        self.assert_refused(InvalidReading, ("givebehind", A, WORD), paper_of, [A], ("givebehind", A, WORD))
        self.assert_refused(InvalidReading, LIFT, paper_of, [A, B], LIFT)
        self.assert_refused(InvalidReading, BOTH, paper_of, [A, B], BOTH)
        self.assert_refused(InvalidReading, ("ahead", WORD, WORD), paper_of, row=[B], reading=LIFT)


class BehindARefusedCall(Checks, unittest.TestCase):

    def test_all_is_as_ahead(self):
        calls = [
            (shown, (EASY,), (NARROW,)), (has_cut, (EASY,), (ODD,)), (without_cut, (("cut", 0, EASY, same(AB)),), (ODD,)),
            (put_behind, (EASY, same(A)), (EASY, same(B))), (turned_paper, (JOIN,), (NARROW,)),
            (reading_of_paper, (EASY,), (JOIN,)), (paper_for, ([AB, B], A), ([], A)), (paper_of, ([A], LIFT), ([A], BOTH)),
        ]
        self.assert_as_ahead(calls)


if __name__ == "__main__":
    unittest.main()
