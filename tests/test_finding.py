"""finding.py: what the functions answer."""

import random
import unittest

from samples import A, AB, AS, B, BC, BOTH, C, LIFT, S, WITH, WORD, Checks, ahead, all_kinds, behind
from slowways import any_row, any_row_of_one_word, slow_comes, slow_readings, slow_shown
from waitwords.finding import above, below, comes_to, how_many, kinds_of, leads_to, readings_of, same_kinds
from waitwords.kinds import balance, lifted, size, turned, turned_row, word
from waitwords.papers import paper_for
from waitwords.readings import is_long, kind_of, turned_reading
from waitwords.texts import show_kind, show_reading

AA, TURN = behind(A, A), ahead(A, A)
FRONT = ("ahead", WORD, WORD)


def together(one, other):
    return ("with", one, other)


def single_kinds(letters, most):
    """All single kinds of at most so many letters, in the order of `kinds_of`."""
    kinds = [kind for kind in all_kinds(letters, most, ("behind", "ahead")) if size(kind) <= most]
    return sorted(kinds, key=lambda kind: (size(kind), show_kind(kind)))


class Comes(Checks, unittest.TestCase):

    def test_comes_to(self):
        self.assert_answer(True, comes_to, row=[A], kind=A)
        self.assert_answer(False, comes_to, row=[A], kind=B)
        self.assert_answer(True, comes_to, row=[AB, B], kind=A)
        self.assert_answer(False, comes_to, row=[B, AB], kind=A)
        self.assert_answer(True, comes_to, row=[A], kind=lifted(A, B, True))
        self.assert_answer(False, comes_to, row=[lifted(A, B, True)], kind=A)
        self.assert_answer(False, comes_to, row=[behind(A, AA)], kind=A)
        self.assert_answer(True, comes_to, row=[A, B], kind=WITH)
        self.assert_answer(False, comes_to, row=[B, A], kind=WITH)
        self.assert_answer(True, comes_to, row=[WITH, C], kind=together(A, together(B, C)))
        self.assert_answer(True, comes_to, row=[WITH, ahead(WITH, S)], kind=S)
        self.assert_answer(False, comes_to, row=[WITH], kind=A)

    def test_leads_to(self):
        self.assert_answer(True, leads_to, one=A, other=A)
        self.assert_answer(False, leads_to, one=A, other=B)
        self.assert_answer(True, leads_to, one=AB, other=behind(behind(A, C), behind(B, C)))
        self.assert_answer(True, leads_to, one=A, other=lifted(A, B, True))
        self.assert_answer(True, leads_to, one=A, other=lifted(A, B, False))
        self.assert_answer(False, leads_to, one=lifted(A, B, False), other=A)
        self.assert_answer(True, leads_to, one=together(AB, B), other=A)
        self.assert_answer(True, leads_to, one=A, other=behind(WITH, B))
        self.assert_answer(False, leads_to, one=WITH, other=together(B, A))

    def test_same_kinds(self):
        self.assert_answer(True, same_kinds, one=A, other=A)
        self.assert_answer(True, same_kinds, one=AB, other=AB)
        self.assert_answer(False, same_kinds, one=A, other=lifted(A, B, True))
        self.assert_answer(False, same_kinds, one=lifted(A, B, True), other=A)
        self.assert_answer(True, same_kinds, one=behind(behind(A, C), B), other=behind(A, together(B, C)))
        self.assert_answer(True, same_kinds, one=ahead(A, behind(S, B)), other=behind(AS, B))
        self.assert_answer(True, same_kinds, one=together(WITH, C), other=together(A, together(B, C)))
        self.assert_answer(False, same_kinds, one=behind(behind(A, B), C), other=behind(A, together(B, C)))
        # Lifted three times is lifted once.
        once = behind(A, ahead(AB, A))
        self.assert_answer(True, same_kinds, one=AB, other=AB)
        self.assert_answer(True, same_kinds, one=once, other=behind(A, ahead(behind(A, ahead(once, A)), A)))

    def test_against_a_slow_search_and_papers(self):
        chance = random.Random(2)
        counts = [0, 0]
        for _ in range(4000):
            texts = chance.choice([("behind", "ahead"), ("behind", "ahead", "with")])
            row, kind = any_row(chance, chance.choice([2, 4, 6, 8]), 5, chance.choice(["a", "ab"]), texts)
            comes = slow_comes(tuple(row), kind)
            counts[comes] += 1
            self.assertEqual(comes_to(row, kind), comes)
            self.assertEqual(paper_for(row, kind) is not None, comes)
            if len(row) == 1:
                self.assertEqual(leads_to(row[0], kind), comes)
                self.assertEqual(same_kinds(row[0], kind), comes and slow_comes((kind,), row[0]))
            if "with" not in texts:
                self.assertEqual(how_many(row, kind) > 0, comes)
            if comes:
                self.assertEqual([word(row), balance(row)], [word([kind]), balance([kind])])
                self.assertTrue(comes_to(turned_row(row), turned(kind)))
        self.assertGreater(min(counts), 300)


class Readings(Checks, unittest.TestCase):

    def test_readings_of(self):
        self.assert_answer([WORD], readings_of, row=[A], kind=A)
        self.assert_answer([], readings_of, row=[A], kind=B)
        self.assert_answer([], readings_of, row=[A, A], kind=A)
        self.assert_answer([BOTH], readings_of, row=[AB, B], kind=A)
        self.assert_answer([("givebehind", B, BOTH)], readings_of, row=[AB], kind=AB)
        self.assert_answer([LIFT], readings_of, row=[A], kind=lifted(A, B, True))
        self.assert_answer([("ahead", BOTH, WORD), ("behind", WORD, FRONT)], readings_of, row=[AA, A, TURN], kind=A)
        self.assert_answer([("givebehind", C, ("behind", WORD, ("behind", WORD, WORD)))], readings_of,
                           row=[AB, BC], kind=behind(A, C))
        self.assert_answer([], readings_of, row=[behind(A, AA)], kind=A)

    def test_how_many(self):
        self.assert_answer(1, how_many, row=[A], kind=A)
        self.assert_answer(0, how_many, row=[B], kind=A)
        self.assert_answer(2, how_many, row=[AA, A, TURN], kind=A)
        self.assert_answer(6, how_many, row=[AA, AA, A, TURN, TURN], kind=A)
        self.assert_answer(0, how_many, row=[behind(A, behind(A, AA)), AA], kind=A)
        self.assert_answer(1, how_many, row=[A], kind=lifted(A, A, False))

    def test_against_a_slow_search(self):
        chance = random.Random(6)
        many = most = 0
        for number in range(3000):
            take = any_row if number % 3 == 0 else any_row_of_one_word
            row, kind = take(chance, chance.choice([2, 4, 6, 8, 10, 12]), 6, "ab"[:1 + number % 2])
            found = readings_of(row, kind)
            told = slow_readings(tuple(row), kind)
            self.assertEqual(found, sorted(told, key=show_reading))
            self.assertEqual(len(found), len(set(found)))
            self.assertEqual(how_many(row, kind), len(told))
            many += len(told)
            most = max(most, len(told))
            for reading in found:
                self.assertEqual(kind_of(row, reading), kind)
                self.assertTrue(is_long(row, reading))
            turned_ones = sorted(map(turned_reading, found), key=show_reading)
            self.assertEqual(readings_of(turned_row(row), turned(kind)), turned_ones)
        self.assertGreater(many, 500)
        self.assertGreater(most, 2)

    def test_many_readings(self):
        for row, kind, many in (([AA, AA, A, TURN, TURN], A, 6), ([AA, AA, AA, A, TURN], A, 4),
                                ([A, TURN, TURN, TURN, TURN, TURN], A, 1), ([AA, AA, AA, A, TURN, TURN], A, 10),
                                ([AA, AA, AA, A, TURN, ahead(behind(A, TURN), A)], A, 20)):
            self.assertEqual(how_many(row, kind), many)
            found = readings_of(row, kind)
            self.assertEqual(found, sorted(slow_readings(tuple(row), kind), key=show_reading))

    def test_the_list_is_new(self):
        row = [AA, A, TURN]
        found = readings_of(row, A)
        found.append(WORD)
        self.assertEqual(len(readings_of(row, A)), 2)
        self.assertEqual(row, [AA, A, TURN])


class Kinds(Checks, unittest.TestCase):

    def test_kinds_of(self):
        self.assert_answer([A], kinds_of, row=[A], signs="a", most=1)
        self.assert_answer([A], kinds_of, row=[A], signs="a", most=2)
        self.assert_answer([A, lifted(A, A, False), lifted(A, A, True)], kinds_of, row=[A], signs="a", most=3)
        self.assert_answer([], kinds_of, row=[A], signs="b", most=3)
        self.assert_answer([A], kinds_of, row=[A], signs="ab", most=2)
        self.assert_answer([A], kinds_of, row=[AB, B], signs="abc", most=1)
        self.assert_answer([AB], kinds_of, row=[AB], signs="ab", most=2)
        self.assert_answer([], kinds_of, row=[AB], signs="ac", most=3)
        self.assert_answer([], kinds_of, row=[A, A], signs="abz", most=3)
        self.assert_answer([A, lifted(A, A, False), lifted(A, B, False), lifted(A, S, False), lifted(A, A, True),
                            lifted(A, B, True), lifted(A, S, True)], kinds_of, row=[A], signs="abs", most=3)

    def test_against_all_kinds(self):
        chance = random.Random(12)
        found = 0
        for number in range(60):
            row, _ = any_row(chance, chance.choice([2, 3, 4, 5]), 3, "ab"[:1 + number % 2])
            for signs in ("a", "b", "ab", "abc", "cz", "z")[number % 3::3]:
                for most in (1, 2, 3):
                    told = [kind for kind in single_kinds(signs, most) if slow_comes(tuple(row), kind)]
                    self.assertEqual(kinds_of(row, signs, most), told)
                    found += len(told)
        self.assertGreater(found, 30)


class AboveAndBelow(Checks, unittest.TestCase):

    def test_above(self):
        self.assert_answer(behind(ahead(behind(A, A), A), ahead(A, A)), above, one=A, other=A, low=A)
        one, other = lifted(A, B, True), lifted(A, C, False)
        self.assert_answer(behind(ahead(behind(A, one), A), ahead(other, A)), above, one=one, other=other, low=A)
        self.assert_answer(behind(ahead(behind(together(AB, B), A), together(AB, B)), ahead(A, together(AB, B))), above,
                           one=A, other=A, low=together(AB, B))

    def test_below(self):
        self.assert_answer(together(together(behind(A, A), A), ahead(A, A)), below, one=A, other=A, high=A)
        one, high = together(AB, B), A
        self.assert_answer(together(together(behind(one, high), high), ahead(high, A)), below, one=one, other=A, high=high)

    def test_both_lead_and_are_led_to(self):
        kinds = [kind for kind in all_kinds("ab", 2) if size(kind) <= 2]
        larger = kinds + [lifted(A, B, True), lifted(B, A, False), together(AB, B), together(B, ahead(B, A)),
                          together(A, AA), behind(WITH, B), ahead(A, together(A, B))]
        tried = 0
        for low in larger:
            above_low = [kind for kind in larger if slow_comes((low,), kind)]
            for one in above_low:
                for other in above_low:
                    tried += 1
                    found = above(one, other, low)
                    self.check_leads(one, found)
                    self.check_leads(other, found)
        for high in larger:
            below_high = [kind for kind in larger if slow_comes((kind,), high)]
            for one in below_high:
                for other in below_high:
                    tried += 1
                    found = below(one, other, high)
                    self.check_leads(found, one)
                    self.check_leads(found, other)
        self.assertGreater(tried, 80)

    def check_leads(self, one, other):
        self.assertTrue(leads_to(one, other))
        self.assertEqual(slow_shown(paper_for([one], other)), ([one], other))


if __name__ == "__main__":
    unittest.main()
