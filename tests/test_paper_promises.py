"""What [9] promises of papers and terms, and papers, readings and terms as deep as [2] lets them be."""

import random
import unittest

from samples import A, AB, B, BOTH, WITH, WORD, all_kinds, behind, some_readings
from slowways import ALL, SINGLE, any_row, slow_comes, slow_readings, slow_shown, some_papers
from waitwords.kinds import balance, turned, turned_row, word
from waitwords.papers import has_cut, paper_for, paper_of, put_behind, reading_of_paper, shown, turned_paper, without_cut
from waitwords.readings import after_step, kind_of, long_form, put_in, shortened, steps, turned_reading, width
from waitwords.terms import names_of, put_for, reading_of, renamed, same_terms, short_term, term_of, term_step
from waitwords.values import first_unlike_worth, worth, worths

LETTERS = "abcdefghijklmnopqrstuvwxyz"


def some_names(many):
    return ["n" + LETTERS[at // 26] + LETTERS[at % 26] for at in range(many)]


def deepness(tree, texts=("same", "word", "name")):
    """How deep the tuples of a paper, reading or term are, kinds left out."""
    found = 0
    left = [(tree, 1)]
    while left:
        part, deep = left.pop()
        found = max(found, deep)
        if part[0] not in texts:
            inner = [thing for thing in part[1:] if isinstance(thing, tuple)]
            left += [(thing, deep + 1) for thing in (inner[-1:] if part[0][:4] == "give" else inner)]
    return found


class ForRows(unittest.TestCase):

    def check(self, row, kind):
        """A row comes to a kind exactly if a paper is found, which shows both; return whether it does."""
        found = paper_for(row, kind)
        self.assertEqual(found is not None, slow_comes(tuple(row), kind), (row, kind))
        if found is None:
            return False
        self.assertEqual(slow_shown(found), (row, kind))
        self.assertNotIn("'cut'", repr(found))
        self.assertEqual([word(row), balance(row)], [word([kind]), balance([kind])])
        self.assertEqual(slow_shown(turned_paper(found)), (turned_row(row), turned(kind)))
        return True

    def test_all_small_rows(self):
        kinds = all_kinds("a", 2) + all_kinds("ab", 2)[::3]
        comes = sum(self.check([one], kind) for one in all_kinds("a", 3)[:60] for kind in all_kinds("a", 3)[:60])
        comes += sum(self.check([one, other], kind) for one in kinds for other in kinds for kind in all_kinds("a", 3)[:60])
        self.assertGreater(comes, 200)

    def test_many_rows(self):
        chance = random.Random(8)
        counts = [0, 0]
        for _ in range(6000):
            withs = chance.random() < 0.5
            total = chance.choice([4, 6, 8, 10] if withs else [4, 6, 8, 10, 12])
            row, kind = any_row(chance, total, 6, chance.choice(["a", "ab"]),
                                ("behind", "ahead", "with") if withs else ("behind", "ahead"))
            if withs or word(row) == word([kind]):
                counts[self.check(row, kind)] += 1
        self.assertGreater(min(counts), 200)

    def test_a_row_of_single_kinds_comes_to_a_single_kind_exactly_if_there_is_a_reading(self):
        chance = random.Random(9)
        comes = 0
        for _ in range(3000):
            row, kind = any_row(chance, chance.choice([4, 6, 8]), 4)
            told = slow_readings(tuple(row), kind)
            found = paper_for(row, kind)
            self.assertEqual(found is not None, bool(told))
            if told:
                comes += 1
                self.assertIn(reading_of_paper(found), told)
        self.assertGreater(comes, 50)


class OfPapers(unittest.TestCase):

    def test_word_and_balance(self):
        for paper in some_papers(300, ALL):
            row, kind = shown(paper)
            self.assertEqual([word(row), balance(row)], [word([kind]), balance([kind])])

    def test_papers_and_readings_there_and_back(self):
        for row, reading in some_readings(200):
            paper = paper_of(row, reading)
            self.assertEqual(reading_of_paper(paper), long_form(row, reading))
        for paper in some_papers(200, SINGLE):
            row, kind = shown(paper)
            reading = reading_of_paper(paper)
            self.assertEqual(kind_of(row, reading), kind)
            self.assertEqual(reading_of_paper(without_cut(paper)), reading)
            again = paper_of(row, reading)
            self.assertEqual([shown(again), reading_of_paper(again)], [(row, kind), reading])

    def test_papers_put_behind_each_other_have_the_readings_put_in_each_other(self):
        by_row, put = {}, 0
        for paper in some_papers(300, SINGLE):
            by_row.setdefault(repr(shown(paper)[0]), []).append(paper)
        for one in some_papers(300, SINGLE):
            row, kind = shown(one)
            for other in by_row.get(repr([kind]), []):
                put += 1
                whole = put_behind(one, other)
                told = put_in(reading_of_paper(other), 0, reading_of_paper(one))
                self.assertEqual(shown(whole), (row, shown(other)[1]))
                self.assertEqual(reading_of_paper(whole), long_form(row, told))
                self.assertEqual(reading_of_paper(without_cut(whole)), long_form(row, told))
        self.assertGreater(put, 50)


class DeepPapers(unittest.TestCase):

    def check(self, paper, single=True):
        """All functions take a paper that the program returned."""
        row, kind = shown(paper)
        self.assertEqual(has_cut(paper), True)
        bare = without_cut(paper)
        self.assertEqual([shown(bare), has_cut(bare)], [(row, kind), False])
        other = turned_paper(paper)
        self.assertEqual(shown(other), (turned_row(row), turned(kind)))
        self.assertEqual(shown(put_behind(paper, ("same", kind))), (row, kind))
        if single:
            reading = reading_of_paper(paper)
            self.assertEqual(reading_of_paper(bare), reading)
            self.assertEqual(reading_of_paper(other), turned_reading(reading))
            self.assertEqual(reading_of_paper(paper_of(row, reading)), reading)
        return bare

    def test_the_same_kind_again_and_again(self):
        # A kind, and one that both lead to each other: A/B lifted twice over.
        high = behind(A, ("ahead", AB, A))
        wide = behind(A, ("ahead", high, A))
        up, down = paper_for([high], wide), paper_for([wide], high)
        whole = ("same", high)
        while deepness(whole) < 380:
            whole = put_behind(put_behind(whole, up), down)
        self.assertLessEqual(deepness(whole), 400)
        self.check(whole)
        other = ("same", high)
        while deepness(other) < 390:
            other = put_behind(("same", high), put_behind(other, ("same", high)))
        self.check(other)

    def test_with_again_and_again(self):
        part = ("part", 0, ("join", ("same", A), ("same", B)))
        whole = ("join", ("same", A), ("same", B))
        while deepness(whole) < 395:
            whole = put_behind(whole, part)
        self.assertEqual(shown(self.check(whole, False)), ([A, B], WITH))

    def test_wide_rows(self):
        aa = behind(A, A)
        reading = WORD
        for _ in range(199):
            reading = put_in(BOTH, 1, reading)
        row = [aa] * 199 + [A]
        paper = paper_of(row, reading)
        self.assertEqual([shown(paper), reading_of_paper(paper)], [(row, A), reading])
        self.assertEqual(deepness(paper), 200)
        for _ in range(90):
            paper = put_behind(paper, paper_for([A], A))
        self.check(paper)
        lifting = paper_for([A], behind(WITH, B))
        self.check(put_behind(paper, lifting), False)
        taken = put_behind(turned_paper(paper), ("same", A))
        self.check(taken)

    def test_detours(self):
        lift = ("givebehind", B, BOTH)
        reading = lift
        for _ in range(90):
            reading = put_in(lift, 0, reading)
        whole = put_in(("behind", lift, WORD), 0, reading)
        for row, one, long in (([AB], reading, lift), ([AB, B], whole, BOTH)):
            paper = paper_of(row, one)
            self.assertEqual([reading_of_paper(paper), has_cut(paper)], [long, False])
            self.assertEqual(shown(paper), (row, kind_of(row, one)))


class DeepTerms(unittest.TestCase):

    def check(self, row, reading, long):
        """All functions take a term that the program returned."""
        names = some_names(width(reading))
        term = term_of(reading, names)
        self.assertEqual([names_of(term), reading_of(term)], [names, reading])
        self.assertTrue(same_terms(term, term_of(reading_of(term), names)))
        short = short_term(term)
        self.assertEqual([reading_of(short), names_of(short)], [shortened(reading), names])
        found = term_step(term)
        if steps(reading):
            self.assertEqual(reading_of(found), after_step(reading, steps(reading)[0]))
        else:
            self.assertIsNone(found)
        other = renamed(term, names[0], "a")
        self.assertEqual(names_of(other), ["a"] + names[1:])
        self.assertEqual(reading_of(other), reading)
        self.assertEqual(put_for(other, "a", ("name", names[0])), renamed(other, "a", names[0]))
        whole = put_for(term, names[-1], ("behind", ("name", names[-1]), ("name", "b")))
        self.assertEqual(names_of(whole), names + ["b"])
        self.assertEqual(long_form(row, reading_of(short)), long)
        self.assertEqual(kind_of(row, reading_of(term)), kind_of(row, reading))

    def test_chain_of_waiting_kinds(self):
        reading = WORD
        for _ in range(190):
            reading = put_in(BOTH, 1, reading)
        self.check([behind(A, A)] * 190 + [A], reading, reading)

    def test_detours_in_one_another(self):
        lift = ("givebehind", B, BOTH)
        reading = lift
        for _ in range(96):
            reading = put_in(lift, 0, reading)
        self.assertGreater(deepness(reading), 190)
        self.check([AB], reading, lift)

    def test_gives(self):
        reading = WORD
        for _ in range(90):
            reading = ("behind", reading, WORD)
        for _ in range(90):
            reading = ("givebehind", A, reading)
        kind = A
        for _ in range(90):
            kind = behind(kind, A)
        self.check([kind], reading, reading)
        # One thing each: the worth is a list in a list, ninety deep.
        told = things = 0
        for _ in range(90):
            told, things = [told], [things]
        self.assertEqual(worth([kind], reading, [("a", 1)], [told]), things)
        self.assertIsNone(first_unlike_worth([kind], reading, WORD, [("a", 1)]))

    def test_worths_of_detours(self):
        back = ("behind", ("givebehind", B, BOTH), WORD)
        reading = BOTH
        for _ in range(60):
            reading = put_in(("behind", ("givebehind", B, BOTH), WORD), 0, ("givebehind", B, reading))
        sizes = [("a", 3), ("b", 1)]
        self.assertEqual(worths([AB, B], reading, sizes), [0, 1, 2])
        self.assertIsNone(first_unlike_worth([AB, B], reading, back, sizes))

    def test_terms_put_into_one_another(self):
        term = ("name", "x")
        for number in range(120):
            term = put_for(("givebehind", "g", A, ("behind", ("name", "x"), ("name", "g"))), "x", term)
            self.assertEqual(names_of(term), ["x"])
        kind = behind(A, A)
        self.assertEqual(kind_of([kind], reading_of(term)), kind)
        self.assertEqual(reading_of(short_term(term)), long_form([kind], WORD))


if __name__ == "__main__":
    unittest.main()
