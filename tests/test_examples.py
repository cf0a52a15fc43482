"""The examples of the document, to the letter."""

import doctest
import unittest

KINDS = r"""
>>> from waitwords.kinds import balance, common, lifted, puts, turned, word
>>> a, b, s = ("plain", "a"), ("plain", "b"), ("plain", "s")
>>> ab, as_ = ("behind", a, b), ("ahead", a, s)
>>> [turned(ab), balance([ab, b]), word([ab]), lifted(a, b, True), word([lifted(a, b, True)])]
[('ahead', ('plain', 'b'), ('plain', 'a')), [('a', 1)], [('a', 1), ('b', -1)], ('behind', ('plain', 'b'), ('ahead', ('plain', 'a'), ('plain', 'b'))), [('a', 1)]]
>>> [puts(ab, ("behind", s, s)), puts(("behind", s, s), ab), common(ab, ("behind", as_, b)) == ab]
[[('a', ('plain', 's')), ('b', ('plain', 's'))], None, True]
"""

READINGS = r"""
>>> from waitwords.readings import after_step, kind_of, long_form, shortened, steps, width
>>> plain = ("word",)
>>> lift = ("givebehind", ("ahead", a, b), ("ahead", plain, plain))
>>> [width(lift), kind_of([a], lift) == lifted(a, b, True), steps(("behind", lift, plain)), shortened(("behind", lift, plain)), long_form([ab], plain)]
[1, True, [[]], ('ahead', ('word',), ('word',)), ('givebehind', ('plain', 'b'), ('behind', ('word',), ('word',)))]
"""

PAPERS = r"""
>>> from waitwords.papers import has_cut, paper_for, reading_of_paper, shown
>>> easy = ("behind", 0, ("same", a), ("same", b))
>>> [shown(easy) == ([ab, b], a), reading_of_paper(easy), has_cut(("cut", 0, easy, ("same", ab))), paper_for([b, ab], a), shown(paper_for([a], lifted(a, b, False))) == ([a], lifted(a, b, False))]
[True, ('behind', ('word',), ('word',)), True, None, True]
"""

TERMS = r"""
>>> from waitwords.terms import names_of, reading_of, renamed, term_of
>>> named = term_of(lift, ["x"])
>>> [named, names_of(named), reading_of(named) == lift, renamed(named, "x", "a")[1]]
[('givebehind', 'a', ('ahead', ('plain', 'a'), ('plain', 'b')), ('ahead', ('name', 'x'), ('name', 'a'))), ['x'], True, 'b']
"""

VALUES = r"""
>>> from waitwords.values import how_many_things, things, worth
>>> two = [("a", 2), ("b", 2)]
>>> [how_many_things(ab, two), things(ab, two), worth([ab, b], ("behind", plain, plain), two, [[1, 0], 1]), worth([a], lift, two, [1])]
[4, [[0, 0], [0, 1], [1, 0], [1, 1]], 0, [0, 1, 0, 1]]
"""

FINDING = r"""
>>> from waitwords.finding import comes_to, how_many, kinds_of, readings_of
>>> aa, turn = ("behind", a, a), ("ahead", a, a)
>>> [readings_of([aa, a, turn], a), comes_to([a], lifted(a, b, True)), comes_to([("behind", a, aa)], a), how_many([("behind", a, ("behind", a, aa)), aa], a)]
[[('ahead', ('behind', ('word',), ('word',)), ('word',)), ('behind', ('word',), ('ahead', ('word',), ('word',)))], True, False, 0]
>>> kinds_of([a], "a", 3) == [a, lifted(a, a, False), lifted(a, a, True)]
True
"""

LINKS = r"""
>>> from waitwords.links import line, links, reading_by
>>> [line([ab, b], a), links([ab, b], a, ("behind", plain, plain)), line([a], lifted(a, b, True)), links([a], lifted(a, b, True), lift), reading_by([aa, a, turn], a, [(0, 5), (1, 4), (2, 3)]), reading_by([ab, b], a, [(0, 1), (2, 3)])]
['abba', [(0, 3), (1, 2)], 'aabb', [(0, 1), (2, 3)], ('behind', ('word',), ('ahead', ('word',), ('word',))), None]
"""

CANCELLING = r"""
>>> from waitwords.cancelling import chart, plain_kinds, plain_readings
>>> [plain_kinds([aa, a, turn]), len(plain_readings([aa, a, turn], a)), chart([ab, b]) == [(0, 1, [ab]), (0, 2, [a]), (1, 2, [b])]]
[[('plain', 'a')], 2, True]
"""

MIDDLES = r"""
>>> from waitwords.middles import middle
>>> [middle([ab, b], 0, 2, a), middle([b, ab], 0, 1, a)]
[('plain', 'a'), None]
"""


class Examples(unittest.TestCase):

    def test_sections(self):
        # The names of a section stand for the same things in those behind it.
        names = {}
        sections = [("kinds", KINDS), ("readings", READINGS), ("papers", PAPERS), ("terms", TERMS), ("values", VALUES),
                    ("finding", FINDING), ("links", LINKS), ("cancelling", CANCELLING), ("middles", MIDDLES)]
        for title, text in sections:
            told = doctest.DocTestParser().get_doctest(text, names, title, None, 0)
            failures = []
            counts = doctest.DocTestRunner().run(told, out=failures.append, clear_globs=False)
            self.assertEqual("".join(failures), "")
            self.assertGreater(counts.attempted, 1)
            names = told.globs


if __name__ == "__main__":
    unittest.main()
