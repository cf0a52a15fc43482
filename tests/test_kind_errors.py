"""kinds.py: what the functions refuse, and which error comes first."""

import unittest

from samples import A, AB, B, ODD, WITH, Checks, ahead, behind
from waitwords.errors import InvalidKind, InvalidLetter, InvalidRow
from waitwords.kinds import balance, common, depth, is_single, letters, lifted
from waitwords.kinds import puts, size, swapped, turned, turned_row, word

WRONG_LETTERS = ["", "A", "ab", "1", " ", "a ", "aa", "{", "`", "\u00e9", "\n"]


class Refused(Checks, unittest.TestCase):

    def test_no_letter_in_a_kind(self):
        for text in WRONG_LETTERS:
            part = ("plain", text)
            for function in (letters, size, depth, is_single, turned):
                self.assert_refused(InvalidKind, part, function, part)
                self.assert_refused(InvalidKind, part, function, kind=behind(A, ahead(part, B)))

    def test_other_first_texts(self):
        for part in (("",), ("word",), ("Plain", "a"), ("same", A), ("givebehind", A, ("word",)), ODD):
            for function in (letters, size, depth, is_single, turned):
                self.assert_refused(InvalidKind, part, function, part)
                self.assert_refused(InvalidKind, part, function, ("with", AB, ahead(A, part)))

    def test_nothing_is_looked_at_in_another_tuple(self):
        odd = ("other", ("plain", "A"), [("plain", "B")])
        self.assert_refused(InvalidKind, odd, letters, behind(odd, ("plain", "C")))

    def test_the_first_part_from_the_left(self):
        one, other = ("plain", "1"), ("plain", "2")
        for text in ("behind", "ahead", "with"):
            self.assert_refused(InvalidKind, one, size, (text, one, other))
            self.assert_refused(InvalidKind, other, size, (text, other, one))
            self.assert_refused(InvalidKind, one, size, (text, (text, A, one), other))
            self.assert_refused(InvalidKind, ODD, size, (text, (text, A, ODD), one))

    def test_both_kinds_in_order(self):
        one, other = ("plain", "1"), ("odd", "2")
        for function in (puts, common):
            self.assert_refused(InvalidKind, one, function, one, other)
            self.assert_refused(InvalidKind, other, function, A, behind(A, other))
        self.assert_refused(InvalidKind, one, lifted, one, other, True)
        self.assert_refused(InvalidKind, other, lifted, A, other, False)
        self.assert_refused(InvalidKind, other, lifted, kind=A, other=other, behind=True)

    def test_rows(self):
        for function in (balance, word, turned_row):
            self.assert_refused(InvalidRow, [], function, [])
            self.assert_refused(InvalidRow, [], function, row=[])
            self.assert_refused(InvalidKind, ODD, function, [A, behind(ODD, A), ("plain", "A")])
            self.assert_refused(InvalidKind, ("plain", ""), function, row=[WITH, ("plain", ""), ODD])

    def test_the_empty_row_that_an_error_holds_is_new(self):
        row = []
        with self.assertRaises(InvalidRow) as caught:
            word(row)
        caught.exception.value.append(A)
        self.assertEqual(row, [])
        self.assert_refused(InvalidRow, [], word, [])

    def test_swapped(self):
        for text in WRONG_LETTERS:
            self.assert_refused(InvalidLetter, text, swapped, A, text, B)
            self.assert_refused(InvalidLetter, text, swapped, kind=A, letter=text, other=WITH)
            self.assert_refused(InvalidKind, ODD, swapped, A, text, ODD)
        self.assert_refused(InvalidKind, ("plain", "1"), swapped, ("plain", "1"), "1", ODD)
        self.assert_refused(InvalidKind, ODD, swapped, behind(B, ODD), "a", A)

    def test_lists_that_an_error_holds_are_new(self):
        shared = [1]
        odd = ("odd", shared, [shared, (shared, {"k": 1})], shared)
        with self.assertRaises(InvalidKind) as caught:
            letters(behind(A, odd))
        found = caught.exception.value
        self.assertEqual(found, odd)
        self.assert_unshared(found, odd)
        found[1].append(2)
        self.assertEqual(odd, ("odd", [1], [[1], ([1], {"k": 1})], [1]))
        self.assertEqual(found, ("odd", [1, 2], [[1], ([1], {"k": 1})], [1]))

    def test_behind_a_refused_call_all_is_as_ahead(self):
        calls = [
            (letters, (AB,), (ODD,)), (size, (AB,), (ODD,)), (depth, (AB,), (ODD,)),
            (is_single, (WITH,), (ODD,)), (turned, (AB,), (ODD,)), (turned_row, ([AB, A],), ([],)),
            (swapped, (AB, "a", WITH), (AB, "A", WITH)), (lifted, (A, B, True), (A, ODD, True)),
            (balance, ([AB, A],), ([],)), (word, ([AB, A],), ([],)),
            (puts, (AB, AB), (AB, ODD)), (common, (AB, AB), (AB, ODD)),
        ]
        self.assert_as_ahead(calls)


if __name__ == "__main__":
    unittest.main()
