"""chains.py: what the functions refuse, and which error comes first."""

import unittest

from samples import A, AB, B, ODD, S, WITH, WORD, Checks, ahead, behind
from waitwords.chains import are_joined, back_chain, chain, chain_kinds, plain_form, turned_chain
from waitwords.errors import InvalidChain, InvalidKind, InvalidLetter, InvalidNumber, InvalidPaper, InvalidRow
from waitwords.kinds import lifted
from waitwords.papers import paper_for

BAD, WORSE = ("plain", "B"), ("plain", "")
UP = paper_for([A], lifted(A, B, True))
EASY = ("behind", 0, ("same", A), ("same", B))
NO_PAPER = ("givebehind", ("same", A))
SIGNS = [0, 2, -2, 100]


class Kinds(Checks, unittest.TestCase):

    def test_of_two_kinds(self):
        for function in (are_joined, chain):
            self.assert_refused(InvalidKind, BAD, function, behind(A, BAD), WORSE)
            self.assert_refused(InvalidKind, WORSE, function, A, ahead(WORSE, BAD))
            self.assert_refused(InvalidKind, ODD, function, one=ODD, other=A)
            self.assert_refused(InvalidKind, ODD, function, one=WITH, other=ODD)

    def test_of_the_one_and_then_of_all_papers(self):
        self.assert_refused(InvalidKind, BAD, chain_kinds, BAD, [(1, ("same", WORSE))])
        self.assert_refused(InvalidKind, WORSE, chain_kinds, A, [(1, ("same", behind(A, WORSE))), (1, ("same", BAD))])
        self.assert_refused(InvalidKind, ODD, chain_kinds, one=ODD, steps=[])
        for function, told in ((chain_kinds, (A,)), (back_chain, ()), (turned_chain, ())):
            # Ahead of what is wrong otherwise, in steps that come sooner.
            self.assert_refused(InvalidKind, BAD, function, *told, [(7, NO_PAPER), (1, EASY), (1, ("same", BAD))])
            self.assert_refused(InvalidKind, ODD, function, *told, [(1, ODD), (0, ("cut", 9, EASY, ("same", ODD)))])
            self.assert_refused(InvalidKind, WORSE, function, *told,
                                [(1, ("join", ("same", A), ("same", WORSE))), (1, ("same", BAD))])


class Steps(Checks, unittest.TestCase):

    def functions(self):
        return ((chain_kinds, (A,)), (back_chain, ()), (turned_chain, ()))

    def test_invalid_paper(self):
        for function, told in self.functions():
            for paper, part in ((NO_PAPER, NO_PAPER), (ODD, ODD), (("giveahead", ODD), ODD), (WORD, WORD),
                                (("behind", 1, ("same", A), ("same", B)),) * 2, (("join", EASY, NO_PAPER), NO_PAPER),
                                (("cut", 0, ("same", A), ("same", B)),) * 2, (("part", 0, ("same", A)),) * 2,
                                (("cut", -1, ("same", A), ("same", A)),) * 2):
                self.assert_refused(InvalidPaper, part, function, *told, [(1, paper)])
                self.assert_refused(InvalidPaper, part, function, *told, [(5, paper), (1, ODD)])
                self.assert_refused(InvalidPaper, part, function, *told, [(1, ("same", A)), (-1, paper)])

    def test_invalid_chain(self):
        for function, told in self.functions():
            for sign in SIGNS:
                self.assert_refused(InvalidChain, (sign, UP), function, *told, [(sign, UP)])
                self.assert_refused(InvalidChain, (sign, ("same", A)), function, *told,
                                    [(1, ("same", A)), (sign, ("same", A)), (1, NO_PAPER)])
            self.assert_refused(InvalidChain, (1, EASY), function, *told, [(1, EASY)])
            self.assert_refused(InvalidChain, (-1, EASY), function, *told, [(-1, EASY)])
            self.assert_refused(InvalidChain, (1, UP), function, *told, [(1, UP), (1, UP)])
            self.assert_refused(InvalidChain, (-1, ("same", A)), function, *told, [(1, UP), (-1, ("same", A)), (1, ODD)])
            self.assert_refused(InvalidChain, (1, ("same", B)), function, *told, [(1, ("same", A)), (1, ("same", B))])
            self.assert_refused(InvalidChain, (-1, UP), function, *told, [(1, ("same", A)), (-1, UP)])
        self.assert_refused(InvalidChain, (1, UP), back_chain, steps=[(1, UP), (1, UP)])
        self.assert_refused(InvalidChain, (1, UP), turned_chain, steps=[(1, UP), (1, UP)])

    def test_the_first_step(self):
        # What is reached ahead of it just the one of chain_kinds tells.
        self.assert_refused(InvalidChain, (1, UP), chain_kinds, B, [(1, UP)])
        self.assert_refused(InvalidChain, (-1, UP), chain_kinds, A, [(-1, UP)])
        self.assert_refused(InvalidChain, (1, ("same", AB)), chain_kinds, one=S, steps=[(1, ("same", AB))])
        self.assertEqual(back_chain([(-1, UP)]), [(1, UP)])
        self.assertEqual(len(turned_chain([(1, ("same", AB))])), 1)

    def test_step_by_step(self):
        self.assert_refused(InvalidChain, (1, UP), chain_kinds, S, [(1, UP), (1, NO_PAPER)])
        self.assert_refused(InvalidPaper, NO_PAPER, chain_kinds, S, [(1, NO_PAPER), (1, UP)])
        self.assert_refused(InvalidPaper, NO_PAPER, chain_kinds, A, [(1, UP), (3, NO_PAPER), (3, UP)])
        self.assert_refused(InvalidChain, (3, ("same", S)), chain_kinds, A, [(3, ("same", S)), (1, ODD)])


class PlainForms(Checks, unittest.TestCase):

    def test_invalid_letter(self):
        for text in ("", "A", "ab", "1", " ", "{"):
            self.assert_refused(InvalidLetter, text, plain_form, [("a", 3), (text, 1)], "B")
            self.assert_refused(InvalidLetter, text, plain_form, [("a", 1), ("a", -1), ("b", 0)], text)
            self.assert_refused(InvalidLetter, text, plain_form, told=[], letter=text)
            self.assert_refused(InvalidLetter, text, plain_form, told=[(text, 5), ("Z", 1)], letter="a")

    def test_invalid_number(self):
        for sign in SIGNS:
            self.assert_refused(InvalidNumber, sign, plain_form, [("a", 1), ("a", -1), ("b", sign), ("c", 9)], "a")
            self.assert_refused(InvalidNumber, sign, plain_form, told=[("a", sign)], letter="z")
        self.assert_refused(InvalidNumber, 2, plain_form, [("a", 2), ("a", -2)], "a")

    def test_invalid_row(self):
        for told in ([("a", 1), ("a", -1)], [("a", -1), ("a", 1)], [("b", 1), ("a", 1), ("a", -1)],
                     [("b", 1), ("a", -1), ("a", 1), ("b", 1)]):
            self.assert_refused(InvalidRow, told, plain_form, told, "a")
            self.assert_refused(InvalidRow, told, plain_form, told=told, letter="b")
        self.assertEqual(plain_form([("a", 1), ("a", 1)], "b")[0], "with")
        self.assertEqual(plain_form([("a", 1), ("b", -1), ("a", -1)], "b")[0], "with")


class BehindARefusedCall(Checks, unittest.TestCase):

    def test_all_is_as_ahead(self):
        self.assert_as_ahead([
            (are_joined, (A, A), (A, ODD)), (chain, (behind(A, A), behind(B, B)), (ODD, A)),
            (chain_kinds, (A, [(1, UP)]), (A, [(2, UP)])), (back_chain, ([(1, UP)],), ([(1, EASY)],)),
            (turned_chain, ([(1, UP)],), ([(1, NO_PAPER)],)), (plain_form, ([("a", 1)], "a"), ([("a", 2)], "a")),
        ])


if __name__ == "__main__":
    unittest.main()
