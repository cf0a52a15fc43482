"""middles.py: what the functions answer and refuse."""

import random
import unittest

from samples import A, AB, AS, B, BC, C, ODD, S, WITH, Checks, ahead, behind
from slowways import any_row, any_row_of_one_word, slow_comes, slow_shown
from waitwords.errors import InvalidKind, InvalidPlace, InvalidRow, WaitError
from waitwords.finding import comes_to
from waitwords.kinds import lifted
from waitwords.middles import middle, middle_papers
from waitwords.papers import has_cut, paper_for, put_behind, reading_of_paper, shown, without_cut

AA, TURN = behind(A, A), ahead(A, A)
BAD = ("plain", "B")


def together(one, other):
    return ("with", one, other)


def letters_of(kinds):
    left, found = list(kinds), []
    while left:
        part = left.pop()
        if part[0] == "plain":
            found.append(part[1])
        else:
            left += part[1:]
    return found


class Middles(Checks, unittest.TestCase):

    def check(self, row, start, end, kind):
        """Both functions tell a kind in the middle."""
        before = list(row)
        told = middle_papers(row, start, end, kind)
        self.assertEqual(row, before)
        self.assertIs(type(told), tuple)
        found, inner, outer = told
        self.check_letters(row, start, end, kind, found)
        for paper in (inner, outer):
            self.assertNotIn("'cut'", repr(paper))
        self.assertEqual(slow_shown(inner), (row[start:end], found))
        self.assertEqual(slow_shown(outer), (row[:start] + [found] + row[end:], kind))
        other = middle(row, start, end, kind)
        self.check_letters(row, start, end, kind, other)
        self.assertTrue(comes_to(row[start:end], other))
        self.assertTrue(comes_to(row[:start] + [other] + row[end:], kind))

    def check_letters(self, row, start, end, kind, found):
        stretch, rest = letters_of(row[start:end]), letters_of(row[:start] + row[end:] + [kind])
        for letter in letters_of([found]):
            most = min(stretch.count(letter), rest.count(letter))
            self.assertLessEqual(letters_of([found]).count(letter), most, (row, start, end, kind, found))

    def check_all(self, row, kind):
        """All stretches of a row that comes to a kind have one."""
        self.assertTrue(slow_comes(tuple(row), kind))
        for start in range(len(row)):
            for end in range(start + 1, len(row) + 1):
                self.check(row, start, end, kind)

    def test_middle(self):
        # There is no other one with so few letters.
        self.assert_answer(A, middle, row=[A], start=0, end=1, kind=A)
        self.assert_answer(A, middle, row=[AB, B], start=0, end=2, kind=A)
        self.assert_answer(B, middle, row=[AB, B], start=1, end=2, kind=A)
        self.assert_answer(AB, middle, row=[AB, B], start=0, end=1, kind=A)
        self.assert_answer(B, middle, row=[AB, BC, C], start=1, end=3, kind=A)
        self.assert_answer(A, middle, row=[A], start=0, end=1, kind=lifted(A, B, True))
        self.assert_answer(AB, middle, row=[AB], start=0, end=1, kind=AB)
        self.assert_answer(A, middle, row=[behind(AA, A), A, A], start=1, end=2, kind=A)
        self.assert_answer(behind(A, C), middle, row=[AB, BC, C], start=0, end=2, kind=A)
        self.assert_answer(WITH, middle, row=[A, B], start=0, end=2, kind=WITH)
        self.assert_answer(together(A, B), middle, row=[S, A, B, C], start=1, end=3, kind=together(S, together(A, together(B, C))))

    def test_middle_papers(self):
        self.assert_answer((A, ("same", A), ("same", A)), middle_papers, row=[A], start=0, end=1, kind=A)
        found, inner, outer = middle_papers(row=[AB, B], start=0, end=1, kind=A)
        self.assertEqual([found, shown(inner), shown(outer)], [AB, ([AB], AB), ([AB, B], A)])

    def test_none(self):
        for function in (middle, middle_papers):
            self.assert_answer(None, function, row=[B, AB], start=0, end=1, kind=A)
            self.assert_answer(None, function, row=[A], start=0, end=1, kind=B)
            self.assert_answer(None, function, row=[lifted(A, B, True)], start=0, end=1, kind=A)
            self.assert_answer(None, function, row=[A, B], start=1, end=2, kind=together(B, A))

    def test_each_form_of_paper(self):
        self.check_all([AB, B], A)
        self.check_all([A, AS], S)
        self.check_all([AB], AB)
        self.check_all([A], lifted(A, B, True))
        self.check_all([A], lifted(A, B, False))
        self.check_all([A, B, C], together(A, together(B, C)))
        self.check_all([A, B, C], together(WITH, C))
        self.check_all([WITH, C], together(A, together(B, C)))
        self.check_all([WITH, C, ahead(together(A, together(B, C)), S)], S)
        self.check_all([S, together(WITH, C), A], together(together(S, A), together(together(B, C), A)))
        self.check_all([behind(S, together(A, together(B, C))), A, B, C], S)
        self.check_all([A, B, C, ahead(together(A, together(B, C)), S)], S)
        self.check_all([A, behind(behind(ahead(A, S), C), B), B, C], S)
        self.check_all([A, B, ahead(B, ahead(A, behind(S, C))), C], S)
        self.check_all([behind(A, together(B, C)), B], behind(A, C))
        self.check_all([B, ahead(together(C, B), A)], ahead(C, A))
        self.check_all([AA, AA, A, TURN, TURN], A)

    def test_many_rows(self):
        chance = random.Random(21)
        comes = 0
        while comes < 900:
            withs = comes % 2
            texts = ("behind", "ahead", "with") if withs else ("behind", "ahead")
            total = chance.choice([4, 6, 8, 10] if withs else [4, 6, 8, 10, 12])
            row, kind = any_row_of_one_word(chance, total, 6, "ab"[:1 + comes % 3 // 2], texts)
            if slow_comes(tuple(row), kind):
                comes += 1
                self.check_all(row, kind)

    def test_rows_that_do_not_come(self):
        chance = random.Random(22)
        for _ in range(500):
            row, kind = any_row(chance, chance.choice([4, 6, 8]), 5, "a", ("behind", "ahead", "with"))
            start = chance.randrange(len(row))
            end = chance.randrange(start, len(row)) + 1
            comes = slow_comes(tuple(row), kind)
            self.assertEqual(middle(row, start, end, kind) is not None, comes)
            self.assertEqual(middle_papers(row, start, end, kind) is not None, comes)

    def test_papers_may_be_passed_on(self):
        for row, kind in (([AB, BC, C], A), ([AA, A, TURN], A), ([A, AS], S)):
            found, inner, outer = middle_papers(row, 0, 2, kind)
            self.assertFalse(has_cut(inner) or has_cut(outer))
            whole = without_cut(("cut", 0, outer, inner))
            self.assertEqual(shown(whole), (row, kind))
            self.assertEqual(reading_of_paper(whole), reading_of_paper(("cut", 0, outer, inner)))
            self.assertEqual(shown(put_behind(inner, paper_for([found], found))), (row[:2], found))


class Refused(Checks, unittest.TestCase):

    def test_invalid_kind(self):
        for function in (middle, middle_papers):
            self.assert_refused(InvalidKind, BAD, function, [A, BAD], 9, 0, ODD)
            self.assert_refused(InvalidKind, ODD, function, [A], -1, 1, ahead(ODD, BAD))
            self.assert_refused(InvalidKind, ODD, function, row=[], start=0, end=1, kind=ODD)

    def test_invalid_row(self):
        for function in (middle, middle_papers):
            self.assert_refused(InvalidRow, [], function, [], 0, 0, A)
            self.assert_refused(InvalidRow, [], function, row=[], start=-1, end=1, kind=A)

    def test_invalid_place(self):
        for function in (middle, middle_papers):
            for start in (-5, -1, 2, 3, 100):
                self.assert_refused(InvalidPlace, start, function, [AB, B], start, 1, A)
                self.assert_refused(InvalidPlace, start, function, row=[AB, B], start=start, end=-7, kind=S)
            for start, end in ((0, 0), (0, -1), (0, 3), (1, 1), (1, 0), (1, 3), (1, 100), (0, -2)):
                self.assert_refused(InvalidPlace, end, function, [AB, B], start, end, A)
                self.assert_refused(InvalidPlace, end, function, row=[AB, B], start=start, end=end, kind=S)

    def test_behind_a_refused_call_all_is_as_ahead(self):
        for function in (middle, middle_papers):
            ahead_of_it = function([AB, B], 0, 1, A)
            self.assertRaises(WaitError, function, [AB, B], 0, 3, A)
            self.assertRaises(WaitError, function, [AB, ODD], 0, 1, A)
            self.assertEqual(function([AB, B], 0, 1, A), ahead_of_it)


if __name__ == "__main__":
    unittest.main()
