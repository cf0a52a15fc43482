"""The examples of the document, to the letter."""

import doctest
import unittest

KINDS = r"""
>>> from waitwords.kinds import balance, common, lifted, puts, turned, word
>>> a, b, s = ("plain", "a"), ("plain", "b"), ("plain", "s")
>>> ab, as_ = ("behind", a, b), ("ahead", a, s)
>>> [turned(ab), balance([ab, b]), word([ab]), lifted(a, b, True), word([lifted(a, b, True)])]
[('ahead', ('plain', 'b'), ('plain', 'a')), [('a', 1)], [('a', 1), ('b', -1)], ('behind', ('plain', 'b'), ('ahead', ('plain', 'a'), ('plain', 'b'))), [('a', 1)]]
>>> [puts(ab, ("behind", s, s)), puts(("behind", s, s), ab), common(ab, ("behind", as_, b)) == ab]
[[('a', ('plain', 's')), ('b', ('plain', 's'))], None, True]
"""

READINGS = r"""
>>> from waitwords.readings import after_step, kind_of, long_form, shortened, steps, width
>>> plain = ("word",)
>>> lift = ("givebehind", ("ahead", a, b), ("ahead", plain, plain))
>>> [width(lift), kind_of([a], lift) == lifted(a, b, True), steps(("behind", lift, plain)), shortened(("behind", lift, plain)), long_form([ab], plain)]
[1, True, [[]], ('ahead', ('word',), ('word',)), ('givebehind', ('plain', 'b'), ('behind', ('word',), ('word',)))]
"""

PAPERS = r"""
>>> from waitwords.papers import has_cut, paper_for, reading_of_paper, shown
>>> easy = ("behind", 0, ("same", a), ("same", b))
>>> [shown(easy) == ([ab, b], a), reading_of_paper(easy), has_cut(("cut", 0, easy, ("same", ab))), paper_for([b, ab], a), shown(paper_for([a], lifted(a, b, False))) == ([a], lifted(a, b, False))]
[True, ('behind', ('word',), ('word',)), True, None, True]
"""

TERMS = r"""
>>> from waitwords.terms import names_of, reading_of, renamed, term_of
>>> named = term_of(lift, ["x"])
>>> [named, names_of(named), reading_of(named) == lift, renamed(named, "x", "a")[1]]
[('givebehind', 'a', ('ahead', ('plain', 'a'), ('plain', 'b')), ('ahead', ('name', 'x'), ('name', 'a'))), ['x'], True, 'b']
"""

VALUES = r"""
>>> from waitwords.values import how_many_things, things, worth
>>> two = [("a", 2), ("b", 2)]
>>> [how_many_things(ab, two), things(ab, two), worth([ab, b], ("behind", plain, plain), two, [[1, 0], 1]), worth([a], lift, two, [1])]
[4, [[0, 0], [0, 1], [1, 0], [1, 1]], 0, [0, 1, 0, 1]]
"""

FINDING = r"""
>>> from waitwords.finding import comes_to, how_many, kinds_of, readings_of
>>> aa, turn = ("behind", a, a), ("ahead", a, a)
>>> [readings_of([aa, a, turn], a), comes_to([a], lifted(a, b, True)), comes_to([("behind", a, aa)], a), how_many([("behind", a, ("behind", a, aa)), aa], a)]
[[('ahead', ('behind', ('word',), ('word',)), ('word',)), ('behind', ('word',), ('ahead', ('word',), ('word',)))], True, False, 0]
>>> kinds_of([a], "a", 3) == [a, lifted(a, a, False), lifted(a, a, True)]
True
"""

LINKS = r"""
>>> from waitwords.links import line, links, reading_by
>>> [line([ab, b], a), links([ab, b], a, ("behind", plain, plain)), line([a], lifted(a, b, True)), links([a], lifted(a, b, True), lift), reading_by([aa, a, turn], a, [(0, 5), (1, 4), (2, 3)]), reading_by([ab, b], a, [(0, 1), (2, 3)])]
['abba', [(0, 3), (1, 2)], 'aabb', [(0, 1), (2, 3)], ('behind', ('word',), ('ahead', ('word',), ('word',))), None]
"""

CANCELLING = r"""
>>> from waitwords.cancelling import chart, plain_kinds, plain_readings
>>> [plain_kinds([aa, a, turn]), len(plain_readings([aa, a, turn], a)), chart([ab, b]) == [(0, 1, [ab]), (0, 2, [a]), (1, 2, [b])]]
[[('plain', 'a')], 2, True]
"""

MIDDLES = r"""
>>> from waitwords.middles import middle
>>> [middle([ab, b], 0, 2, a), middle([b, ab], 0, 1, a)]
[('plain', 'a'), None]
"""

CHAINS = r"""
>>> from waitwords.chains import are_joined, chain, chain_kinds, plain_form
>>> [are_joined(lifted(a, b, True), a), are_joined(ab, a), chain(ab, a), chain_kinds(a, chain(a, lifted(a, s, False)))[-1] == lifted(a, s, False), plain_form([("a", 1), ("b", -1)], "s") == ("with", a, ("ahead", b, ("behind", s, s)))]
[True, False, None, True, True]
"""

SPANS = r"""
>>> from waitwords.spans import first_outside, lot_of, row_lot, text_span
>>> span, texts = text_span("a", 2)
>>> lots = [("a", [1]), ("b", [0])]
>>> [span.products, texts, lot_of(span, ab, lots), row_lot(span, [ab, b], lots), first_outside(span, [ab, b], a, lots), first_outside(span, [b], a, lots)]
[[[1, 2, 2], [2, 2, 2], [2, 2, 2]], ['a', 'aa', None], [0], [1], None, 0]
"""

BOOKS = r"""
>>> from waitwords.books import Book, comes, first_row_of, readings_in, rows_of
>>> book = Book([("he", [a]), ("sleeps", [as_]), ("soundly", [("ahead", as_, as_)])])
>>> [comes(book, ["he", "sleeps"], s), rows_of(book, 3, s), first_row_of(book, as_, 2), readings_in(book, ["he", "sleeps"], s), len(book)]
[True, [['he', 'sleeps', 'soundly']], ['sleeps'], [([('plain', 'a'), ('ahead', ('plain', 'a'), ('plain', 's'))], [('ahead', ('word',), ('word',))])], 3]
"""

RULES = r"""
>>> from waitwords.rules import greatest_length, is_endless, kind_of_rule, nth_list, numbers, rules
>>> flat = Book([("he", [a]), ("sleeps", [as_]), ("and", [("ahead", a, ("behind", a, a))])])
>>> [rules(flat)[2], numbers(flat, "s", 6), is_endless(flat, "s"), greatest_length(flat, "a"), nth_list(flat, "s", 4, 0), kind_of_rule(("a", ["a"], "and", ["a"])) == ("behind", ("ahead", a, a), a)]
[('a', ['a'], 'and', ['a']), [0, 0, 1, 0, 1, 0, 2], True, None, ['he', 'and', 'he', 'sleeps'], True]
"""

GAPS = r"""
>>> from waitwords.gaps import completed, fillers, gaps, need_behind, words_for
>>> [need_behind([ab], a) == ("ahead", ab, a), fillers([ab], 1, a, "ab", 1), words_for(book, ["he"], 1, s), completed(book, ["he"], s, 2), gaps(book, ["he", "sleeps"], s)]
[True, [('plain', 'b')], ['sleeps'], ['sleeps'], [(2, ['soundly'])]]
"""

LEARNING = r"""
>>> from waitwords.learning import general, least_book, lets, unified
>>> trees = [("ahead", ("leaf", "he"), ("leaf", "sleeps")), ("ahead", ("behind", ("leaf", "the"), ("leaf", "cat")), ("leaf", "sleeps"))]
>>> [general(trees[:1], "s"), least_book(trees, "s").entries == [("he", [a]), ("sleeps", [as_]), ("the", [("behind", a, ("plain", "c"))]), ("cat", [("plain", "c")])], unified([(ab, ("behind", b, s))])]
[[('he', ('plain', 'a')), ('sleeps', ('ahead', ('plain', 'a'), ('plain', 's')))], True, [('b', ('plain', 'a')), ('s', ('plain', 'a'))]]
"""

DESKS = r"""
>>> from waitwords.desks import Desk
>>> desk = Desk(book)
>>> [desk.order("put n a"), desk.order("put t s"), desk.order("ahead v n t"), desk.order("show v"), desk.order("comes n v to t"), desk.order("lets he sleeps to t"), desk.order("lifted m n t"), desk.order("comes m v to t"), len(desk), desk.order("teach she n"), desk.order("count n v to t"), desk.order("undo"), desk.order("book")]
['done', 'done', 'done', '(a\\s)', 'yes', 'yes', 'done', 'yes', 4, 'done', '1', 'done', 'he: a ; sleeps: (a\\s) ; soundly: ((a\\s)\\(a\\s))']
"""


class Examples(unittest.TestCase):

    def test_sections(self):
        # The names of a section stand for the same things in those behind it.
        names = {}
        sections = [("kinds", KINDS), ("readings", READINGS), ("papers", PAPERS), ("terms", TERMS), ("values", VALUES),
                    ("finding", FINDING), ("links", LINKS), ("cancelling", CANCELLING), ("middles", MIDDLES),
                    ("chains", CHAINS), ("spans", SPANS), ("books", BOOKS), ("rules", RULES), ("gaps", GAPS),
                    ("learning", LEARNING), ("desks", DESKS)]
        for title, text in sections:
            told = doctest.DocTestParser().get_doctest(text, names, title, None, 0)
            failures = []
            counts = doctest.DocTestRunner().run(told, out=failures.append, clear_globs=False)
            self.assertEqual("".join(failures), "")
            self.assertGreater(counts.attempted, 1)
            names = told.globs


if __name__ == "__main__":
    unittest.main()
