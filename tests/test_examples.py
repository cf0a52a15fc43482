"""The examples of the document, to the letter."""

import doctest
import unittest

KINDS = r"""
>>> from waitwords.kinds import balance, common, lifted, puts, turned, word
>>> a, b, s = ("plain", "a"), ("plain", "b"), ("plain", "s")
>>> ab, as_ = ("behind", a, b), ("ahead", a, s)
>>> [turned(ab), balance([ab, b]), word([ab]), lifted(a, b, True), word([lifted(a, b, True)])]
[('ahead', ('plain', 'b'), ('plain', 'a')), [('a', 1)], [('a', 1), ('b', -1)], ('behind', ('plain', 'b'), ('ahead', ('plain', 'a'), ('plain', 'b'))), [('a', 1)]]
>>> [puts(ab, ("behind", s, s)), puts(("behind", s, s), ab), common(ab, ("behind", as_, b)) == ab]
[[('a', ('plain', 's')), ('b', ('plain', 's'))], None, True]
"""

READINGS = r"""
>>> from waitwords.readings import after_step, kind_of, long_form, shortened, steps, width
>>> plain = ("word",)
>>> lift = ("givebehind", ("ahead", a, b), ("ahead", plain, plain))
>>> [width(lift), kind_of([a], lift) == lifted(a, b, True), steps(("behind", lift, plain)), shortened(("behind", lift, plain)), long_form([ab], plain)]
[1, True, [[]], ('ahead', ('word',), ('word',)), ('givebehind', ('plain', 'b'), ('behind', ('word',), ('word',)))]
"""


class Examples(unittest.TestCase):

    def test_sections(self):
        # The names of a section stand for the same things in those behind it.
        names = {}
        for title, text in (("kinds", KINDS), ("readings", READINGS)):
            told = doctest.DocTestParser().get_doctest(text, names, title, None, 0)
            failures = []
            counts = doctest.DocTestRunner().run(told, out=failures.append, clear_globs=False)
            self.assertEqual("".join(failures), "")
            self.assertGreater(counts.attempted, 3)
            names = told.globs


if __name__ == "__main__":
    unittest.main()
