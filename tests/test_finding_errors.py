"""finding.py: what the functions refuse, and which error comes first."""

import unittest

from samples import A, AB, B, DEEP_WITH, ODD, S, WITH, WORD, Checks, ahead, behind
from waitwords.errors import InvalidKind, InvalidLetter, InvalidNumber, InvalidRow, NotLeading, NotSingle
from waitwords.finding import above, below, comes_to, how_many, kinds_of, leads_to, readings_of, same_kinds
from waitwords.kinds import lifted

BAD = ("plain", "B")
WORSE = ("plain", "")
WRONG_SIGNS = ["", "A", "aa", "ba", "abcd", "acb", "abb", "a1", " a", "a ", "aB", "\u00e9", "az ", "cba", "a,b"]


class Rows(Checks, unittest.TestCase):

    def test_invalid_kind(self):
        for function in (comes_to, readings_of, how_many):
            self.assert_refused(InvalidKind, BAD, function, [A, behind(B, BAD), ODD], WORSE)
            self.assert_refused(InvalidKind, ODD, function, [WITH], ahead(ODD, WORSE))
            self.assert_refused(InvalidKind, ODD, function, row=[], kind=ODD)
        self.assert_refused(InvalidKind, BAD, kinds_of, [WITH, BAD], "", 0)
        self.assert_refused(InvalidKind, WORD, kinds_of, row=[WORD], signs="a", most=1)

    def test_invalid_row(self):
        for function in (comes_to, readings_of, how_many):
            self.assert_refused(InvalidRow, [], function, [], WITH)
            self.assert_refused(InvalidRow, [], function, row=[], kind=A)
        self.assert_refused(InvalidRow, [], kinds_of, [], "", 0)

    def test_not_single(self):
        for function in (readings_of, how_many):
            self.assert_refused(NotSingle, WITH, function, [A, WITH], DEEP_WITH)
            self.assert_refused(NotSingle, DEEP_WITH, function, [A, DEEP_WITH, WITH], A)
            self.assert_refused(NotSingle, behind(A, WITH), function, row=[A], kind=behind(A, WITH))
        self.assert_refused(NotSingle, WITH, kinds_of, [A, WITH], "", 0)
        self.assert_refused(NotSingle, WITH, kinds_of, row=[WITH], signs="ab", most=1)
        self.assertTrue(comes_to([WITH], WITH))

    def test_invalid_letter(self):
        for signs in WRONG_SIGNS:
            self.assert_refused(InvalidLetter, signs, kinds_of, [A], signs, 1)
            self.assert_refused(InvalidLetter, signs, kinds_of, row=[A], signs=signs, most=9)

    def test_invalid_number(self):
        for most in (0, 4, -1, 100):
            self.assert_refused(InvalidNumber, most, kinds_of, [A], "abc", most)
            self.assert_refused(InvalidNumber, most, kinds_of, row=[A], signs="z", most=most)


class TwoKinds(Checks, unittest.TestCase):

    def test_invalid_kind(self):
        for function in (leads_to, same_kinds):
            self.assert_refused(InvalidKind, BAD, function, behind(A, BAD), WORSE)
            self.assert_refused(InvalidKind, WORSE, function, A, WORSE)
            self.assert_refused(InvalidKind, ODD, function, one=ODD, other=A)
        for function in (above, below):
            self.assert_refused(InvalidKind, BAD, function, A, BAD, WORSE)
            self.assert_refused(InvalidKind, WORSE, function, WORSE, BAD, ODD)
            self.assert_refused(InvalidKind, ODD, function, A, B, ODD)
        self.assert_refused(InvalidKind, ODD, above, one=A, other=ODD, low=S)
        self.assert_refused(InvalidKind, ODD, below, one=A, other=ODD, high=S)

    def test_not_leading(self):
        lift = lifted(A, B, True)
        self.assert_refused(NotLeading, B, above, B, S, A)
        self.assert_refused(NotLeading, S, above, A, S, A)
        self.assert_refused(NotLeading, A, above, lift, A, lift)
        self.assert_refused(NotLeading, A, above, one=A, other=lift, low=lift)
        self.assert_refused(NotLeading, B, below, B, S, A)
        self.assert_refused(NotLeading, S, below, A, S, A)
        self.assert_refused(NotLeading, lift, below, A, lift, A)
        self.assert_refused(NotLeading, lift, below, one=lift, other=lift, high=A)
        self.assertEqual(below(lift, A, lift)[0], "with")
        self.assertEqual(above(lift, A, A)[0], "behind")


class BehindARefusedCall(Checks, unittest.TestCase):

    def test_all_is_as_ahead(self):
        calls = [
            (comes_to, ([AB, B], A), ([], A)), (leads_to, (A, A), (A, ODD)), (same_kinds, (A, A), (A, ODD)),
            (readings_of, ([AB, B], A), ([WITH], A)), (how_many, ([AB, B], A), ([WITH], A)),
            (kinds_of, ([A], "ab", 3), ([A], "ba", 3)), (above, (A, A, A), (A, A, B)), (below, (A, A, A), (A, A, B)),
        ]
        self.assert_as_ahead(calls)


if __name__ == "__main__":
    unittest.main()
