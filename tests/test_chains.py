"""chains.py: what the functions answer."""

import random
import unittest

from samples import A, AB, AS, B, C, S, WITH, Checks, ahead, all_kinds, behind
from slowways import any_row_of_one_word, kind_of_size, slow_comes, slow_shown
from waitwords.chains import are_joined, back_chain, chain, chain_kinds, plain_form, turned_chain
from waitwords.kinds import lifted, size, turned, word
from waitwords.papers import has_cut, paper_for, put_behind, shown, without_cut

AA, BB = behind(A, A), behind(B, B)
LIFT = lifted(A, B, True)
UP = paper_for([A], LIFT)
TEXTS = ("behind", "ahead", "with")


def together(one, other):
    return ("with", one, other)


def kinds_by_steps(one, steps):
    """The kinds of a chain, as the document words it, step by step."""
    found = [one]
    for sign, paper in steps:
        row, kind = slow_shown(paper)
        low, high = (found[-1], kind) if sign == 1 else (kind, found[-1])
        if sign == 1:
            assert row == [low]
            found.append(high)
        else:
            assert sign == -1 and len(row) == 1 and kind == found[-1]
            found.append(row[0])
    return found


class Joined(Checks, unittest.TestCase):

    def test_are_joined(self):
        self.assert_answer(True, are_joined, one=A, other=A)
        self.assert_answer(False, are_joined, one=A, other=B)
        self.assert_answer(True, are_joined, one=LIFT, other=A)
        self.assert_answer(True, are_joined, one=AA, other=BB)
        self.assert_answer(True, are_joined, one=AA, other=ahead(S, S))
        self.assert_answer(False, are_joined, one=AB, other=A)
        self.assert_answer(False, are_joined, one=AB, other=ahead(B, A))
        self.assert_answer(False, are_joined, one=WITH, other=together(B, A))
        self.assert_answer(True, are_joined, one=behind(AB, C), other=behind(A, together(C, B)))
        self.assert_answer(True, are_joined, one=together(AB, B), other=together(A, BB))

    def test_what_leads_is_joined(self):
        chance = random.Random(41)
        led = 0
        for _ in range(2000):
            row, kind = any_row_of_one_word(chance, chance.choice([2, 4, 6]), 1, "ab", TEXTS)
            self.assertTrue(are_joined(row[0], kind))
            led += slow_comes((row[0],), kind)
        self.assertGreater(led, 300)


class Chains(Checks, unittest.TestCase):

    def check(self, one, other):
        """A chain from one kind to another one is right, and so are those made of it."""
        steps = chain(one, other)
        self.assertIs(type(steps), list)
        for step in steps:
            self.assertIs(type(step), tuple)
            self.assertFalse(has_cut(step[1]))
            self.assertNotIn("'cut'", repr(step))
        kinds = kinds_by_steps(one, steps)
        self.assertEqual(kinds[-1], other)
        self.assertEqual(chain_kinds(one, steps), kinds)
        back = back_chain(steps)
        self.assertEqual(back, [(-sign, paper) for sign, paper in reversed(steps)])
        self.assertEqual(kinds_by_steps(other, back), kinds[::-1])
        self.assertEqual(chain_kinds(other, back), kinds[::-1])
        self.assertEqual(back_chain(back), steps)
        around = turned_chain(steps)
        self.assertEqual(kinds_by_steps(turned(one), around), [turned(kind) for kind in kinds])
        self.assertEqual(chain_kinds(turned(one), around)[-1], turned(other))
        self.assertEqual(chain_kinds(one, turned_chain(back_chain(turned_chain(back)))), kinds)
        self.assertEqual([word([kind]) for kind in kinds], [word([one])] * len(kinds))
        return steps

    def test_ordinary_ones(self):
        for one, other in ((A, A), (A, LIFT), (LIFT, A), (AA, BB), (AA, ahead(S, S)), (together(AB, B), A), (AS, AS),
                           (WITH, WITH), (A, together(A, BB)), (A, together(behind(S, S), A)),
                           (behind(AB, C), behind(A, together(C, B))), (lifted(A, B, True), lifted(A, C, False)),
                           (together(A, BB), together(ahead(C, C), A)), (behind(A, LIFT), AA)):
            self.check(one, other)

    def test_by_name_and_by_position(self):
        self.assert_answer(None, chain, one=AB, other=A)
        self.assert_answer(None, chain, one=WITH, other=together(B, A))
        self.assertEqual(chain(one=AA, other=BB), chain(AA, BB))
        self.assert_unshared(chain(AA, BB), chain(AA, BB))

    def test_from_a_kind_to_itself(self):
        for kind in (A, AB, WITH, LIFT, AA):
            self.check(kind, kind)

    def test_kinds_that_do_not_lead_to_one_another_in_one_step(self):
        for one, other in ((AA, BB), (lifted(A, B, True), lifted(A, C, True)), (BB, ahead(C, C)),
                           (together(A, BB), together(AA, A)), (behind(B, BB), together(AA, B))):
            self.assertFalse(slow_comes((one,), other) or slow_comes((other,), one))
            self.assertGreater(len(self.check(one, other)), 1)

    def test_each_way_a_kind_is_taken_apart(self):
        # Each of these stands behind something, as it is and as what is waited for, so that all is done within.
        inner = [WITH, AB, ahead(B, A), together(A, AB), behind(A, AB), ahead(AB, A), behind(AB, A), ahead(A, AB)]
        for kind in inner:
            for whole in (kind, behind(S, kind), ahead(kind, S), together(S, kind), together(kind, S)):
                if size(whole) <= 5:
                    self.check(whole, plain_form(word([whole]), "s"))
                    self.check(plain_form(word([whole]), "c"), whole)

    def test_just_for_kinds_of_one_word(self):
        kinds = [kind for kind in all_kinds("ab", 3) if size(kind) <= 3]
        chance = random.Random(42)
        counts = [0, 0]
        for _ in range(4000):
            one, other = chance.choice(kinds), chance.choice(kinds)
            if word([one]) == word([other]):
                counts[1] += 1
                self.check(one, other)
            else:
                counts[0] += 1
                self.assertIsNone(chain(one, other))
        self.assertGreater(min(counts), 100)

    def test_many_kinds_of_five_letters(self):
        chance = random.Random(43)
        tried = 0
        while tried < 700:
            one, other = [kind_of_size(chance, chance.choice([1, 3, 4, 5, 5]), "ab"[:1 + tried % 2], TEXTS)
                          for _ in range(2)]
            if word([one]) == word([other]):
                tried += 1
                self.check(one, other)
            else:
                self.assertIsNone(chain(one, other))

    def test_papers_may_be_passed_on(self):
        for one, other in ((AA, BB), (LIFT, lifted(A, C, True)), (behind(AB, C), behind(A, together(C, B)))):
            for _, paper in chain(one, other):
                row, kind = shown(paper)
                self.assertEqual(([row[0]], kind), slow_shown(paper))
                self.assertEqual(without_cut(paper), paper)


class ChainKinds(Checks, unittest.TestCase):

    def test_chain_kinds(self):
        self.assert_answer([A], chain_kinds, one=A, steps=[])
        self.assert_answer([WITH], chain_kinds, one=WITH, steps=[])
        self.assert_answer([A, A], chain_kinds, one=A, steps=[(1, ("same", A))])
        self.assert_answer([A, A], chain_kinds, one=A, steps=[(-1, ("same", A))])
        self.assert_answer([A, LIFT], chain_kinds, one=A, steps=[(1, UP)])
        self.assert_answer([LIFT, A], chain_kinds, one=LIFT, steps=[(-1, UP)])
        self.assert_answer([A, LIFT, A, LIFT], chain_kinds, one=A, steps=[(1, UP), (-1, UP), (1, UP)])

    def test_papers_with_cut(self):
        cut = put_behind(("same", A), UP)
        self.assertTrue(has_cut(cut))
        self.assert_answer([A, LIFT, A], chain_kinds, one=A, steps=[(1, cut), (-1, cut)])
        self.assert_answer([(1, cut), (-1, UP)], back_chain, steps=[(1, UP), (-1, cut)])
        around = turned_chain([(1, cut)])
        self.assertEqual(kinds_by_steps(A, around), [A, turned(LIFT)])

    def test_twelve_steps(self):
        steps = [(1, UP), (-1, UP)] * 6
        self.assert_answer([A, LIFT] * 6 + [A], chain_kinds, one=A, steps=steps)
        self.assert_answer(steps, back_chain, steps=steps)

    def test_back_chain(self):
        self.assert_answer([], back_chain, steps=[])
        self.assert_answer([(-1, UP)], back_chain, steps=[(1, UP)])
        self.assert_answer([(1, UP)], back_chain, steps=[(-1, UP)])
        self.assert_answer([(-1, UP), (1, ("same", A))], back_chain, steps=[(-1, ("same", A)), (1, UP)])

    def test_turned_chain(self):
        self.assert_answer([], turned_chain, steps=[])
        for steps in ([(1, UP)], [(-1, UP)], [(1, UP), (-1, UP)], [(-1, ("same", AB))]):
            start = kinds_by_steps(*started(steps))
            around = turned_chain(steps=steps)
            self.assertEqual(kinds_by_steps(turned(start[0]), around), [turned(kind) for kind in start])
            self.assert_unshared(around, [steps, turned_chain(steps)])
            self.assertEqual(turned_chain(steps), around)

    def test_the_lists_are_new(self):
        steps = [(1, UP)]
        for function in (back_chain, turned_chain):
            function(steps).append(3)
        chain_kinds(A, steps).append(3)
        chain(AA, BB).append(3)
        self.assertEqual(steps, [(1, UP)])
        self.assertEqual([chain_kinds(A, steps), back_chain(steps)], [[A, LIFT], [(-1, UP)]])
        self.assertNotIn(3, chain(AA, BB))


def started(steps):
    """The kind at which a chain begins, and the chain."""
    row, kind = slow_shown(steps[0][1])
    return (row[0] if steps[0][0] == 1 else kind), steps


class PlainForms(Checks, unittest.TestCase):

    def test_plain_form(self):
        self.assert_answer(AA, plain_form, told=[], letter="a")
        self.assert_answer(behind(S, S), plain_form, told=[], letter="s")
        self.assert_answer(together(A, behind(S, S)), plain_form, told=[("a", 1)], letter="s")
        self.assert_answer(ahead(A, behind(S, S)), plain_form, told=[("a", -1)], letter="s")
        self.assert_answer(together(A, ahead(B, behind(S, S))), plain_form, told=[("a", 1), ("b", -1)], letter="s")
        self.assert_answer(ahead(A, together(B, AA)), plain_form, told=[("a", -1), ("b", 1)], letter="a")
        self.assert_answer(ahead(B, ahead(B, together(A, behind(C, C)))), plain_form,
                           told=[("b", -1), ("b", -1), ("a", 1)], letter="c")

    def test_its_word_is_the_told_one(self):
        chance = random.Random(44)
        lengths = set()
        for _ in range(500):
            told = []
            for _ in range(chance.randrange(15)):
                pair = (chance.choice("abz"), chance.choice([1, -1]))
                if not told or told[-1] != (pair[0], -pair[1]):
                    told.append(pair)
            lengths.add(len(told))
            before = list(told)
            kind = plain_form(told, chance.choice("abz"))
            self.assertEqual([word([kind]), told, size(kind)], [before, before, len(told) + 2])
        self.assertEqual(lengths, set(range(15)))


if __name__ == "__main__":
    unittest.main()
