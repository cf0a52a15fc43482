"""texts.py: the texts of kinds, rows, readings, papers, trees and books."""

import unittest

from samples import A, AB, AS, B, BOTH, C, DEEP, LIFT, S, WITH, WORD, Checks, ahead, all_kinds, all_readings, behind
from waitwords.books import Book
from waitwords.texts import show_book, show_kind, show_paper, show_reading, show_row, show_tree


class Kinds(Checks, unittest.TestCase):

    def test_show_kind(self):
        self.assert_answer("a", show_kind, kind=A)
        self.assert_answer("(a/b)", show_kind, kind=AB)
        self.assert_answer("(a\\s)", show_kind, kind=AS)
        self.assert_answer("(a.b)", show_kind, kind=WITH)
        self.assert_answer("(((a/(b\\c))\\s)/a)", show_kind, kind=DEEP)
        self.assert_answer("((a.b)\\(b/(a\\b)))", show_kind, kind=ahead(WITH, behind(B, ahead(A, B))))

    def test_forty_brackets(self):
        kind, text = A, "a"
        for _ in range(20):
            kind, text = behind(ahead(B, kind), C), "((b\\" + text + ")/c)"
        self.assert_answer(text, show_kind, kind=kind)
        kind, text = A, "a"
        for _ in range(40):
            kind, text = ("with", B, kind), "(b." + text + ")"
        self.assert_answer(text, show_kind, kind=kind)

    def test_unlike_kinds_have_unlike_texts(self):
        kinds = all_kinds("ab", 3)
        self.assertEqual(len({show_kind(kind) for kind in kinds}), len(set(kinds)))

    def test_show_row(self):
        self.assert_answer("a", show_row, row=[A])
        self.assert_answer("(a/b) , b", show_row, row=[AB, B])
        self.assert_answer("a , (a.b) , (a\\s)", show_row, row=[A, WITH, AS])


class Trees(Checks, unittest.TestCase):

    def test_show_reading(self):
        self.assert_answer("*", show_reading, reading=WORD)
        self.assert_answer("(* > *)", show_reading, reading=BOTH)
        self.assert_answer("(* < *)", show_reading, reading=("ahead", WORD, WORD))
        self.assert_answer("b[(a\\b)](* < *)", show_reading, reading=LIFT)
        self.assert_answer("a[(a/b)](* > *)", show_reading, reading=("giveahead", AB, BOTH))
        self.assert_answer("((* > *) > b[a]a[(a.b)](* < (* < *)))", show_reading, reading=(
            "behind", BOTH, ("givebehind", A, ("giveahead", WITH, ("ahead", WORD, ("ahead", WORD, WORD))))))
        self.assert_answer("b[a]*", show_reading, reading=("givebehind", A, WORD))

    def test_unlike_readings_have_unlike_texts(self):
        readings = all_readings(8, (A, AB))
        self.assertEqual(len({show_reading(reading) for reading in readings}), len(readings))

    def test_forty_gives_and_brackets(self):
        reading, text = WORD, "*"
        for _ in range(20):
            reading, text = ("givebehind", A, ("behind", reading, WORD)), "b[a](" + text + " > *)"
        self.assert_answer(text, show_reading, reading=reading)

    def test_show_paper(self):
        easy = ("behind", 0, ("same", A), ("same", B))
        self.assert_answer("same[a]", show_paper, paper=("same", A))
        self.assert_answer("same[(a/b)]", show_paper, paper=("same", AB))
        self.assert_answer("same[(a.b)]", show_paper, paper=("same", WITH))
        self.assert_answer("behind[0;same[a];same[b]]", show_paper, paper=easy)
        self.assert_answer("ahead[12;same[a];same[b]]", show_paper, paper=("ahead", 12, ("same", A), ("same", B)))
        self.assert_answer("cut[1;same[a];same[(a\\s)]]", show_paper, paper=("cut", 1, ("same", A), ("same", AS)))
        self.assert_answer("givebehind[behind[0;same[a];same[b]]]", show_paper, paper=("givebehind", easy))
        self.assert_answer("giveahead[same[s]]", show_paper, paper=("giveahead", ("same", S)))
        self.assert_answer("join[same[a];giveahead[behind[0;same[a];same[b]]]]", show_paper,
                           paper=("join", ("same", A), ("giveahead", easy)))
        self.assert_answer("part[0;join[same[a];same[b]]]", show_paper, paper=("part", 0, ("join", ("same", A), ("same", B))))
        self.assert_answer("part[-3;same[a]]", show_paper, paper=("part", -3, ("same", A)))

    def test_show_tree(self):
        he, sees, her = ("leaf", "he"), ("leaf", "sees"), ("leaf", "her")
        self.assert_answer("he", show_tree, tree=he)
        self.assert_answer("(sees > her)", show_tree, tree=("behind", sees, her))
        self.assert_answer("(he < (sees > her))", show_tree, tree=("ahead", he, ("behind", sees, her)))
        self.assert_answer("((he < sees) > her)", show_tree, tree=("behind", ("ahead", he, sees), her))


class Books(Checks, unittest.TestCase):

    def test_show_book(self):
        for entries, text in (([], "none"), ([("he", [A])], "he: a"), ([("he", [A, AB])], "he: a , (a/b)"),
                              ([("sleeps", [AS]), ("he", [A]), ("so", [ahead(AS, AS), WITH])],
                               "sleeps: (a\\s) ; he: a ; so: ((a\\s)\\(a\\s)) , (a.b)")):
            self.assert_answer(text, show_book, book=Book(entries))


if __name__ == "__main__":
    unittest.main()
