"""readers.py: texts there and back, and texts that nothing has."""

import random
import unittest

from bookways import any_tree, some_books
from samples import A, AB, AS, B, C, DEEP, DEEP_WITH, LIFT, WITH, WORD, Checks, ahead, all_kinds, all_readings, behind
from samples import laid_out, row_width, some_readings
from slowways import some_papers
from waitwords.books import Book
from waitwords.chains import chain
from waitwords.errors import Unreadable
from waitwords.papers import shown
from waitwords.readers import read_book, read_kind, read_paper, read_reading, read_row, read_tree
from waitwords.texts import show_book, show_kind, show_paper, show_reading, show_row, show_tree

READERS = ((read_kind, show_kind), (read_row, show_row), (read_reading, show_reading), (read_paper, show_paper),
           (read_tree, show_tree), (read_book, show_book))
EASY = ("behind", 0, ("same", A), ("same", B))
# What a text may be changed by.
SIGNS = list("abz()[]/\\.*<>;:, 01A-+") + [" > ", " < ", " , ", " ; ", ": ", "none", "same", "b[", "]"]


def changed(text):
    """All texts with a sign put in, left out, exchanged or doubled."""
    found = []
    for at in range(len(text) + 1):
        for sign in SIGNS:
            found.append(text[:at] + sign + text[at:])
            found.append(text[:at] + sign + text[at + 1:])
        found.append(text[:at] + text[at + 1:])
        found.append(text[:at] + text[at:at + 1] * 2 + text[at + 1:])
        found.append(text[:at])
        found.append(text[at:])
    return [other for other in found if other != text]


def small_papers():
    plain = [("same", A), ("same", AB)]
    found = list(plain)
    for _ in range(2):
        found = plain + [(text, paper) for text in ("givebehind", "giveahead") for paper in found[:6]]
        found += [("join", one, other) for one in plain for other in found[:4]] + [("part", 10, paper) for paper in found[:4]]
        found += [(text, at, one, other) for text in ("behind", "ahead", "cut") for at in (0, 1, 12) for one in found[:3]
                  for other in plain]
    return found


class ThereAndBack(Checks, unittest.TestCase):

    def check(self, read, show, thing):
        text = show(thing)
        found = read(text)
        self.assertEqual(laid_out(found), laid_out(thing))
        self.assertIs(type(found), type(thing))
        self.assertEqual(laid_out(read(text=text)), laid_out(thing))
        self.assertEqual(show(found), text)
        self.assert_unshared(found, read(text))

    def test_ordinary_ones(self):
        self.assert_answer(A, read_kind, text="a")
        self.assert_answer(AB, read_kind, text="(a/b)")
        self.assert_answer(ahead(WITH, AS), read_kind, text="((a.b)\\(a\\s))")
        self.assert_answer([A], read_row, text="a")
        self.assert_answer([AB, B, WITH], read_row, text="(a/b) , b , (a.b)")
        self.assert_answer(WORD, read_reading, text="*")
        self.assert_answer(LIFT, read_reading, text="b[(a\\b)](* < *)")
        self.assert_answer(("behind", ("behind", WORD, WORD), ("giveahead", WITH, ("ahead", WORD, WORD))), read_reading,
                           text="((* > *) > a[(a.b)](* < *))")
        self.assert_answer(("same", DEEP), read_paper, text="same[(((a/(b\\c))\\s)/a)]")
        self.assert_answer(EASY, read_paper, text="behind[0;same[a];same[b]]")
        self.assert_answer(("part", 9999, ("join", EASY, ("giveahead", ("cut", 10, EASY, ("givebehind", ("same", A)))))),
                           read_paper, text="part[9999;join[behind[0;same[a];same[b]];"
                                            "giveahead[cut[10;behind[0;same[a];same[b]];givebehind[same[a]]]]]]")
        self.assert_answer(("leaf", "he"), read_tree, text="he")
        self.assert_answer(("ahead", ("leaf", "he"), ("behind", ("leaf", "sees"), ("leaf", "her"))), read_tree,
                           text="(he < (sees > her))")
        self.assert_answer(Book([("he", [A])]), read_book, text="he: a")
        self.assert_answer(Book([("z", [AB, B]), ("he", [WITH])]), read_book, text="z: (a/b) , b ; he: (a.b)")
        self.assert_answer(Book([]), read_book, text="none")
        self.assert_answer(Book([("none", [A])]), read_book, text="none: a")
        self.assert_answer(("leaf", "none"), read_tree, text="none")

    def test_kinds_and_rows(self):
        kinds = all_kinds("ab", 3) + [DEEP, DEEP_WITH]
        for kind in kinds:
            self.check(read_kind, show_kind, kind)
        chance = random.Random(101)
        for _ in range(300):
            self.check(read_row, show_row, [chance.choice(kinds) for _ in range(chance.randrange(1, 7))])

    def test_readings(self):
        for reading in all_readings(7, (A, WITH)) + [reading for _, reading in some_readings(200)]:
            self.check(read_reading, show_reading, reading)
        # It may show nothing.
        self.check(read_reading, show_reading, ("givebehind", DEEP_WITH, ("behind", WORD, ("ahead", WORD, WORD))))

    def test_papers(self):
        for paper in some_papers(300) + small_papers() + [paper for _, paper in chain(behind(A, A), ahead(C, C))]:
            self.check(read_paper, show_paper, paper)
        for at in (0, 1, 9, 10, 99, 100, 999, 1000, 9999):
            self.check(read_paper, show_paper, ("part", at, ("same", A)))

    def test_trees(self):
        chance = random.Random(102)
        for many in (1, 2, 3, 4, 5, 6, 7, 8) * 25:
            self.check(read_tree, show_tree, any_tree(chance, many, ["a", "he", "abcdefgh", "to", "none", "same"]))

    def test_books(self):
        for book in some_books(100) + some_books(50, 6, "abz", ("behind", "ahead", "with"), ("none", "a", "to", "abcdefgh")):
            self.check(read_book, show_book, book)

    def test_forty_open_at_once(self):
        kind, reading, tree, paper = A, WORD, ("leaf", "he"), ("same", A)
        for _ in range(40):
            kind, tree = ("with", kind, B), ("behind", tree, ("leaf", "a"))
        for _ in range(20):
            reading = ("givebehind", A, ("behind", reading, WORD))
        for _ in range(39):
            paper = ("part", 0, paper)
        for (read, show), thing in zip(READERS, (kind, [A, kind], reading, paper, tree, Book([("he", [kind])]))):
            self.check(read, show, thing)

    def test_long_texts(self):
        entries = [("w" + "abcdefghij"[at % 10] + "abcdefghij"[at // 10], [AB, DEEP_WITH, A]) for at in range(72)]
        self.assertGreater(len(show_book(Book(entries))), 2900)
        self.check(read_book, show_book, Book(entries))
        self.check(read_row, show_row, [DEEP] * 115)


class NoText(Checks, unittest.TestCase):

    def assert_none_has(self, read, *texts):
        for text in texts:
            self.assert_refused(Unreadable, text, read, text)
            self.assert_refused(Unreadable, text, read, text=text)

    def test_the_empty_text_and_spaces(self):
        for read, _ in READERS:
            self.assert_none_has(read, "", " ", "  ", "\\", "()", "[]", "?", "~", "A", "1", "(", ")", "((", "))")

    def test_kinds(self):
        self.assert_none_has(read_kind, "ab", "A", "(a)", "(ab)", "(a/)", "(/b)", "(a/b", "a/b)", "a/b", "(a /b)", "(a/ b)",
                             " a", "a ", "(a,b)", "(a|b)", "(a//b)", "(a/b/c)", "((a/b))", "(A/b)", "(a/b)c", "a(a/b)",
                             "(a/b)(a/b)", "a , b", "(a/b))", "((a/b)", "(a/(b)", "[a/b]", "(a\\\\b)", "(a..b)", ")a/b(")

    def test_rows(self):
        self.assert_none_has(read_row, "a,b", "a ,b", "a, b", "a , ", " , a", "a ,  b", "a , , b", "a ; b", "(a , b)",
                             "a , B", "a  , b", ",", " , ")

    def test_readings(self):
        self.assert_none_has(read_reading, "**", "(*)", "(*>*)", "(* >*)", "(* = *)", "(*  > *)", "(* > *", "* > *)",
                             "* > *", "b[a]", "b[]*", "b*", "[a]*", "c[a](* > *)", "b[A](* > *)", "b[a](* > *", "b[(a](* > *)",
                             "b[a]]*", "b[a (* > *)", "(b[a] > *)", "(* > b[a])", "b(* > *)", "a", "word", "(* > a)",
                             "b[*](* > *)", "b[a] (* > *)", "(* > * > *)", "(* < * > *)", "b[", "a[", "b[a", "b]a[*")

    def test_readings_of_no_width(self):
        self.assert_none_has(read_reading, "b[a]*", "a[a]*", "b[a]b[a](* > *)", "b[a]a[a](* < *)", "(b[a]* > (* > *))",
                             "a[a]b[a]b[a]((* > *) > *)", "((* > *) > b[(a.b)]*)", "b[a](b[a]* > (* > *))")
        self.check_readable(read_reading, show_reading, "b[a]a[a]((* > *) > *)")

    def check_readable(self, read, show, text):
        self.assertEqual(show(read(text)), text)

    def test_papers(self):
        self.assert_none_has(read_paper, "a", "same", "same[]", "same[A]", "same[a", "same a]", "same[a]]", "same[[a]]",
                             "same[a;b]", "Same[a]", "other[same[a]]", "givebehind[]", "givebehind[a]", "givebehind",
                             "givebehind[same[a];same[a]]", "givebehind[0;same[a]]", "join[same[a]]", "[same[a]]",
                             "join[same[a],same[b]]", "join[same[a];same[b];same[c]]", "join[0;same[a];same[b]]",
                             "part[same[a]]", "part[a;same[a]]", "part[0;same[a];same[b]]", "part[0 ;same[a]]",
                             "part[0; same[a]]", "part[0;;same[a]]", "part[;same[a]]", "part[0;same[a];]",
                             "behind[0;same[a]]", "behind[same[a];same[b]]", "behind[0;same[a];same[b]", "cut[0;same[a]]",
                             "cut[same[a];0;same[a]]", "same[a]same[b]", "same[a];same[b]", "0", ";", "0;same[a]",
                             "join[;]", "join[]", "part[0;0]", "givebehind[givebehind]", "give[same[a]]", "n;p", "p;p",
                             "givebehind[same[a]same[a]]", "join[p;p]", "part[n;p]", "givebehind[p[]", "join[p[;same[a]]",
                             "part[n[;same[a]]", "behind[0;p[;p[]", "join[same[a];p[]", "n[", "p[", "odd[same[a]]")

    def test_places(self):
        for place in ("00", "01", "0001", "10000", "12345", "00000", "-1", "+1", "-0", "1 ", " 1", "", "a", "1a", "a1", "1.0",
                      "0x1", "1_0", "--1", "x", "1x", "x1", "*", "99999"):
            for form in ("part[{};same[a]]", "behind[{};same[a];same[b]]", "ahead[{};same[a];same[b]]",
                         "cut[{};same[a];same[b]]"):
                self.assert_none_has(read_paper, form.replace("{}", place))
        self.assertEqual(read_paper("part[0;same[a]]"), ("part", 0, ("same", A)))
        self.assertEqual(read_paper("cut[1234;same[a];same[b]]"), ("cut", 1234, ("same", A), ("same", B)))

    def test_what_is_shown_and_has_other_places_is_unreadable(self):
        for at in (-1, 10000, -12, 123456):
            self.assert_none_has(read_paper, show_paper(("part", at, ("same", A))))

    def test_trees(self):
        self.assert_none_has(read_tree, "He", "he1", "abcdefghi", "(he)", "(he>she)", "(he > )", "( > he)", "(he > she",
                             "he > she", "(he > she))", "(he > she > it)", "he she", "(he  > she)", "(he = she)", "*",
                             "(* > *)", "(he > abcdefghi)", "he ", " he", "((he > she)", "(he > (she))", "b[a]he")

    def test_books(self):
        self.assert_none_has(read_book, "he", "he:", "he: ", "he:a", "he : a", "He: a", "abcdefghi: a", ": a", "he: A",
                             "he: a ;", "he: a ; ", " ; he: a", "he: a ; he: b", "he: a , a", "he: a ; it", "none ; he: a",
                             "he: a ; none", "he: a;it: b", "he: a ,b", "he: a: b", "he1: a", "he: none", "None", "nonen",
                             "he: a , b , a", "he: (a/b) , b , (a/b)", "it: b ; he: a ; it: c", "he:  a", "he: a  ; it: b")

    def test_changed_texts(self):
        # What can be read has just this text; and what is the text of something small can be read.
        chance = random.Random(103)
        readings = all_readings(6, (A, AB))
        things = [
            [kind for kind in all_kinds("ab", 3) if len(show_kind(kind)) < 10], [[A], [A, B], [AB, A], [A, A, B]],
            readings, small_papers(), [any_tree(chance, 1 + at % 4, ["a", "ab"]) for at in range(60)],
            some_books(40, 2, "ab", words=("a", "ab")) + [Book([])],
        ]
        read_ones = 0
        for (read, show), told in zip(READERS, things):
            known = {show(thing): thing for thing in told}
            for text in sorted(known)[::max(1, len(known) // 25)]:
                for other in changed(text):
                    if other in known:
                        self.assertEqual(laid_out(read(other)), laid_out(known[other]))
                        continue
                    try:
                        found = read(other)
                    except Unreadable as error:
                        self.assertEqual(error.value, other)
                        continue
                    read_ones += 1
                    self.assertEqual(show(found), other)
        self.assertGreater(read_ones, 300)

    def test_readings_by_their_widths(self):
        # All readings of few tuples, also such as have no width somewhere.
        found = {1: [WORD]}
        for many in range(2, 8):
            found[many] = [(text, A, part) for text in ("givebehind", "giveahead") for part in found[many - 1]]
            for left in range(1, many - 1):
                found[many] += [(text, one, other) for text in ("behind", "ahead")
                                for one in found[left] for other in found[many - 1 - left]]
        counts = {True: 0, False: 0}
        for reading in [reading for many in found for reading in found[many]]:
            text = show_reading(reading)
            wide = widths_are_right(reading)
            counts[wide] += 1
            if wide:
                self.assertEqual(read_reading(text), reading)
            else:
                self.assert_none_has(read_reading, text)
        self.assertGreater(min(counts.values()), 50)

    def test_deep_texts_that_nothing_has(self):
        for text in ("(" * 3000, ")" * 3000, "b[a]" * 700, "part[0;" * 400, "(" * 1500 + "a" + ")" * 1500):
            for read, _ in READERS:
                self.assertRaises(Unreadable, read, text)

    def test_behind_a_refused_call_all_is_as_ahead(self):
        self.assert_as_ahead([
            (read_kind, ("(a/b)",), ("(a/b",)), (read_row, ("a , b",), ("a,b",)), (read_reading, ("(* > *)",), ("b[a]*",)),
            (read_paper, ("part[0;same[a]]",), ("part[00;same[a]]",)), (read_tree, ("(a > b)",), ("(a)",)),
            (read_book, ("he: a",), ("he: a , a",)),
        ])

    def test_answers_are_new(self):
        for read, text in ((read_row, "a , b"), (read_book, "he: a")):
            ahead_of_it = laid_out(read(text))
            found = read(text)
            (found if read is read_row else found.entries).append(9)
            self.assertEqual(laid_out(read(text)), ahead_of_it)
        self.assertEqual(shown(read_paper(show_paper(EASY))), ([AB, B], A))


def widths_are_right(reading):
    parts = [part for part in reading[1:] if part[0] not in ("plain",)]
    return row_width(reading) > 0 and all(widths_are_right(part) for part in parts)


if __name__ == "__main__":
    unittest.main()
