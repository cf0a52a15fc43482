"""kinds.py: what the functions answer."""

import unittest

from samples import A, AB, AS, B, BC, C, DEEP, DEEP_WITH, S, WITH, Checks, ahead, all_kinds, behind
from waitwords.kinds import balance, common, depth, is_single, letters, lifted
from waitwords.kinds import puts, size, swapped, turned, turned_row, word


def together(one, other):
    return ("with", one, other)


class OneKind(Checks, unittest.TestCase):

    def test_letters(self):
        self.assert_answer("a", letters, kind=A)
        self.assert_answer("ab", letters, kind=behind(B, behind(A, B)))
        self.assert_answer("abcs", letters, kind=DEEP)
        self.assert_answer("abcs", letters, kind=DEEP_WITH)
        self.assert_answer("az", letters, kind=together(("plain", "z"), A))

    def test_size(self):
        self.assert_answer(1, size, kind=A)
        self.assert_answer(2, size, kind=behind(A, A))
        self.assert_answer(5, size, kind=DEEP)
        self.assert_answer(6, size, kind=DEEP_WITH)

    def test_depth(self):
        self.assert_answer(1, depth, kind=A)
        self.assert_answer(2, depth, kind=AB)
        self.assert_answer(2, depth, kind=WITH)
        self.assert_answer(5, depth, kind=DEEP)
        self.assert_answer(6, depth, kind=DEEP_WITH)
        self.assert_answer(3, depth, kind=ahead(AB, A))
        self.assert_answer(3, depth, kind=ahead(A, AB))
        self.assert_answer(3, depth, kind=together(AB, AB))

    def test_is_single(self):
        self.assert_answer(True, is_single, kind=A)
        self.assert_answer(True, is_single, kind=DEEP)
        self.assert_answer(False, is_single, kind=WITH)
        self.assert_answer(False, is_single, kind=DEEP_WITH)
        self.assert_answer(False, is_single, kind=behind(A, WITH))

    def test_turned(self):
        self.assert_answer(A, turned, kind=A)
        self.assert_answer(ahead(B, A), turned, kind=behind(A, B))
        self.assert_answer(behind(S, A), turned, kind=ahead(A, S))
        self.assert_answer(together(B, A), turned, kind=WITH)
        self.assert_answer(together(AS, ahead(B, A)), turned, kind=together(AB, behind(S, A)))
        self.assert_answer(ahead(A, behind(S, ahead(behind(C, B), A))), turned, kind=DEEP)
        for kind in all_kinds("ab", 3):
            self.assertEqual(turned(turned(kind)), kind)

    def test_turned_row(self):
        self.assert_answer([A], turned_row, row=[A])
        self.assert_answer([C, ahead(B, A)], turned_row, row=[AB, C])
        self.assert_answer([together(B, A), A, behind(S, A)], turned_row, row=[AS, A, WITH])

    def test_swapped(self):
        self.assert_answer(B, swapped, kind=A, letter="a", other=B)
        self.assert_answer(A, swapped, kind=A, letter="z", other=WITH)
        self.assert_answer(behind(AB, B), swapped, kind=AB, letter="a", other=AB)
        self.assert_answer(ahead(WITH, together(B, WITH)), swapped, kind=ahead(S, together(B, S)), letter="s", other=WITH)

    def test_lifted(self):
        self.assert_answer(behind(B, ahead(A, B)), lifted, kind=A, other=B, behind=True)
        self.assert_answer(ahead(behind(B, A), B), lifted, kind=A, other=B, behind=False)
        self.assert_answer(behind(AB, ahead(WITH, AB)), lifted, kind=WITH, other=AB, behind=True)
        self.assert_answer(ahead(behind(A, A), A), lifted, kind=A, other=A, behind=False)


class Rows(Checks, unittest.TestCase):

    def test_balance(self):
        self.assert_answer([("a", 1)], balance, row=[A])
        self.assert_answer([("a", 1), ("b", -1)], balance, row=[AB])
        self.assert_answer([("a", -1), ("s", 1)], balance, row=[AS])
        self.assert_answer([], balance, row=[behind(A, A)])
        self.assert_answer([("a", 1), ("b", 1)], balance, row=[WITH])
        self.assert_answer([("a", 2), ("s", 1)], balance, row=[S, A, A])
        self.assert_answer([("a", 2), ("b", -1), ("c", -1)], balance, row=[behind(A, WITH), ahead(C, A), A])
        self.assert_answer([("a", 1)], balance, row=[behind(B, ahead(A, B))])

    def test_word(self):
        self.assert_answer([("a", 1)], word, row=[A])
        self.assert_answer([("a", 1), ("a", 1)], word, row=[A, A])
        self.assert_answer([("a", 1), ("b", -1)], word, row=[AB])
        self.assert_answer([("b", -1), ("a", 1)], word, row=[ahead(B, A)])
        self.assert_answer([], word, row=[behind(A, A)])
        self.assert_answer([], word, row=[ahead(A, AB), behind(B, A), A])
        self.assert_answer([("a", 1), ("b", 1)], word, row=[WITH])
        self.assert_answer([("a", 1), ("c", 1), ("b", -1)], word, row=[behind(A, behind(B, C))])
        self.assert_answer([("a", 1), ("b", -1), ("c", 1)], word, row=[behind(A, ahead(C, B))])
        self.assert_answer([("b", -1), ("a", -1), ("s", 1)], word, row=[ahead(WITH, S)])
        self.assert_answer([("s", 1), ("b", -1), ("a", -1)], word, row=[behind(S, WITH)])
        self.assert_answer([("a", 1)], word, row=[AB, BC, C])

    def test_word_and_balance_agree(self):
        for kind in all_kinds("ab", 3):
            signs = {}
            told = word([kind])
            for letter, sign in told:
                signs[letter] = signs.get(letter, 0) + sign
            self.assertEqual([pair for pair in sorted(signs.items()) if pair[1]], balance([kind]))
            beside = list(zip(told, told[1:]))
            self.assertFalse([pair for pair in beside if pair[0] == (pair[1][0], -pair[1][1])])

    def test_lifted_keeps_word_and_balance(self):
        for kind in all_kinds("ab", 2):
            for sign in (True, False):
                other = lifted(kind, WITH, sign)
                self.assertEqual([word([other]), balance([other])], [word([kind]), balance([kind])])

    def test_turned_word_is_turned_round(self):
        for kind in all_kinds("ab", 3)[::7]:
            self.assertEqual(word(turned_row([kind, AB])), word([kind, AB])[::-1])


class TwoKinds(Checks, unittest.TestCase):

    def test_puts(self):
        self.assert_answer([("a", A)], puts, kind=A, other=A)
        self.assert_answer([("a", WITH)], puts, kind=A, other=WITH)
        self.assert_answer([("a", B), ("b", A)], puts, kind=AB, other=behind(B, A))
        self.assert_answer([("a", B), ("c", S), ("s", AS)], puts,
                           kind=together(S, ahead(C, behind(A, S))), other=together(AS, ahead(S, behind(B, AS))))
        self.assert_answer(None, puts, kind=behind(A, A), other=AB)
        self.assert_answer(None, puts, kind=AB, other=A)
        self.assert_answer(None, puts, kind=AB, other=ahead(A, B))
        self.assert_answer(None, puts, kind=WITH, other=AB)
        self.assert_answer(None, puts, kind=behind(A, AB), other=behind(B, AB))

    def test_puts_by_trying(self):
        kinds = all_kinds("ab", 2)
        for kind in kinds:
            for other in all_kinds("ab", 3)[::5]:
                table = puts(kind, other)
                ways = [
                    [("a", one), ("b", two)] for one in parts(other) for two in parts(other)
                    if put_all(kind, {"a": one, "b": two}) == other
                ]
                if table is None:
                    self.assertEqual(ways, [])
                else:
                    self.assertEqual("".join([letter for letter, _ in table]), letters(kind))
                    self.assertEqual(put_all(kind, dict(table)), other)

    def test_common(self):
        self.assert_answer(A, common, one=A, other=A)
        self.assert_answer(A, common, one=S, other=S)
        self.assert_answer(A, common, one=S, other=WITH)
        self.assert_answer(A, common, one=AB, other=WITH)
        self.assert_answer(AB, common, one=behind(S, S), other=behind(S, C))
        self.assert_answer(behind(A, A), common, one=behind(S, S), other=behind(C, C))
        self.assert_answer(AB, common, one=behind(S, C), other=behind(C, S))
        self.assert_answer(ahead(A, together(B, A)), common, one=ahead(S, together(C, S)), other=ahead(C, together(C, C)))
        self.assert_answer(ahead(A, behind(B, A)), common,
                           one=ahead(AB, behind(S, AB)), other=ahead(C, behind(S, C)))

    def test_common_is_the_nearest(self):
        kinds = all_kinds("ab", 2) + all_kinds("ab", 3)[::41]
        for one in kinds:
            for other in kinds:
                found = common(one, other)
                self.assertIsNotNone(puts(found, one))
                self.assertIsNotNone(puts(found, other))
                self.assertEqual("abcdefghijklm"[:len(letters(found))], letters(found))
                for kind in kinds[:14]:
                    if puts(kind, one) is not None and puts(kind, other) is not None:
                        self.assertIsNotNone(puts(kind, found))


def parts(kind):
    if kind[0] == "plain":
        return [kind]
    return [kind] + parts(kind[1]) + parts(kind[2])


def put_all(kind, table):
    if kind[0] == "plain":
        return table[kind[1]]
    return (kind[0], put_all(kind[1], table), put_all(kind[2], table))


if __name__ == "__main__":
    unittest.main()
