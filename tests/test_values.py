"""values.py: what the functions answer."""

import random
import unittest
from itertools import product

from samples import A, AB, AS, B, BOTH, C, LIFT, S, WITH, WORD, Checks, ahead, all_kinds, behind, next_readings
from samples import row_width, some_readings
from slowways import any_row, slow_readings
from waitwords.readings import long_form
from waitwords.values import first_unlike_worth, how_many_things, place_of, things, worth, worths

TWO = [("a", 2), ("b", 2)]
ODD_SIZES = [("a", 2), ("b", 3), ("c", 1), ("s", 2)]


def slow_things(kind, table):
    """All things of a kind, as the document words it."""
    if kind[0] == "plain":
        return list(range(table[kind[1]]))
    one, other = slow_things(kind[1], table), slow_things(kind[2], table)
    if kind[0] == "with":
        return [(first, second) for first in one for second in other]
    if kind[0] == "ahead":
        one, other = other, one
    return [list(found) for found in product(one, repeat=len(other))]


def slow_worth(row, told, reading, table):
    """The kind that a reading shows, and its worth, as the document words it."""
    if reading[0] == "word":
        return row[0], told[0]
    if reading[0] == "givebehind":
        found = [slow_worth(row + [reading[1]], told + [thing], reading[2], table)
                 for thing in slow_things(reading[1], table)]
        return ("behind", found[0][0], reading[1]), [one for _, one in found]
    if reading[0] == "giveahead":
        found = [slow_worth([reading[1]] + row, [thing] + told, reading[2], table)
                 for thing in slow_things(reading[1], table)]
        return ("ahead", reading[1], found[0][0]), [one for _, one in found]
    wide = row_width(reading[1])
    first, one = slow_worth(row[:wide], told[:wide], reading[1], table)
    second, other = slow_worth(row[wide:], told[wide:], reading[2], table)
    if reading[0] == "behind":
        return first[1], one[slow_things(second, table).index(other)]
    return second[2], other[slow_things(first, table).index(one)]


def few_things(row, reading, table):
    """Whether a row and a reading keep the bounds, so that the slow way is not too slow."""
    given = givens(reading)
    lists = 1
    for kind in row + given:
        for part in parts(kind):
            if count(part, table) > 9:
                return False
        lists *= count(kind, table)
    return lists <= 300


def count(kind, table):
    if kind[0] == "plain":
        return table[kind[1]]
    one, other = count(kind[1], table), count(kind[2], table)
    return one ** other if kind[0] == "behind" else other ** one


def parts(kind):
    return [kind] if kind[0] == "plain" else parts(kind[1]) + parts(kind[2]) + [kind]


def givens(reading):
    if reading[0] == "word":
        return []
    if reading[0] in ("behind", "ahead"):
        return givens(reading[1]) + givens(reading[2])
    return [reading[1]] + givens(reading[2])


class Things(Checks, unittest.TestCase):

    def test_how_many_things(self):
        self.assert_answer(2, how_many_things, kind=A, sizes=TWO)
        self.assert_answer(4, how_many_things, kind=AB, sizes=TWO)
        self.assert_answer(9, how_many_things, kind=AB, sizes=[("a", 3), ("b", 2)])
        self.assert_answer(8, how_many_things, kind=ahead(A, B), sizes=[("a", 3), ("b", 2)])
        self.assert_answer(6, how_many_things, kind=WITH, sizes=[("a", 3), ("b", 2)])
        self.assert_answer(1, how_many_things, kind=C, sizes=[("c", 1)])
        self.assert_answer(1, how_many_things, kind=behind(C, A), sizes=[("a", 3), ("c", 1)])
        self.assert_answer(3, how_many_things, kind=behind(A, C), sizes=[("a", 3), ("c", 1)])
        self.assert_answer(3, how_many_things, kind=A, sizes=[("a", 3), ("b", 1), ("z", 2)])

    def test_the_greatest_numbers(self):
        three = [("a", 3), ("b", 3)]
        self.assert_answer(3 ** 27, how_many_things, kind=behind(A, AB), sizes=three)
        self.assert_answer(3 ** 19683, how_many_things, kind=behind(behind(behind(A, AB), AB), AB), sizes=three)
        nine = behind(behind(A, B), B)
        self.assertEqual(how_many_things(nine, [("a", 3), ("b", 2)]), 81)
        self.assert_answer(3 ** 6561, how_many_things, kind=behind(behind(A, nine), nine), sizes=[("a", 3), ("b", 2)])

    def test_things(self):
        self.assert_answer([0, 1], things, kind=A, sizes=TWO)
        self.assert_answer([0], things, kind=C, sizes=[("c", 1)])
        self.assert_answer([[0, 0], [0, 1], [1, 0], [1, 1]], things, kind=AB, sizes=TWO)
        self.assert_answer([[0, 0], [0, 1], [1, 0], [1, 1]], things, kind=ahead(B, A), sizes=TWO)
        self.assert_answer([[0], [1], [2]], things, kind=behind(A, C), sizes=[("a", 3), ("c", 1)])
        self.assert_answer([[0, 0, 0]], things, kind=behind(C, A), sizes=[("a", 3), ("c", 1)])
        self.assert_answer([(0, 0), (0, 1), (1, 0), (1, 1)], things, kind=WITH, sizes=TWO)
        self.assert_answer([[(0, 0)], [(0, 1)], [(1, 0)], [(1, 1)]], things, kind=ahead(C, WITH),
                           sizes=[("a", 2), ("b", 2), ("c", 1)])
        self.assert_answer([([0, 0], 0), ([0, 1], 0), ([1, 0], 0), ([1, 1], 0)], things, kind=("with", AB, C),
                           sizes=[("a", 2), ("b", 2), ("c", 1)])
        self.assert_answer([[[0, 0]], [[0, 1]], [[1, 0]], [[1, 1]]], things, kind=behind(AB, C),
                           sizes=[("a", 2), ("b", 2), ("c", 1)])

    def test_things_of_all_small_kinds(self):
        for sizes in (TWO, [("a", 1), ("b", 3)], [("a", 3), ("b", 1)]):
            table = dict(sizes)
            for kind in all_kinds("ab", 3)[::3]:
                if how_many_things(kind, sizes) > 81:
                    continue
                told = slow_things(kind, table)
                self.assertEqual(how_many_things(kind, sizes), len(told))
                self.assertEqual(things(kind, sizes), told)
                self.assertEqual(sorted(told), told)
                for place in {0, len(told) // 2, len(told) - 1}:
                    self.assertEqual(place_of(kind, sizes, told[place]), place)

    def test_place_of(self):
        self.assert_answer(1, place_of, kind=A, sizes=TWO, thing=1)
        self.assert_answer(2, place_of, kind=AB, sizes=TWO, thing=[1, 0])
        self.assert_answer(2, place_of, kind=WITH, sizes=TWO, thing=(1, 0))
        self.assert_answer(0, place_of, kind=behind(C, A), sizes=[("a", 3), ("c", 1)], thing=[0, 0, 0])
        self.assert_answer(5, place_of, kind=ahead(C, WITH), sizes=[("a", 2), ("b", 3), ("c", 1)], thing=[(1, 2)])
        self.assert_answer(80, place_of, kind=behind(behind(A, B), B), sizes=[("a", 3), ("b", 2)],
                           thing=[[2, 2], [2, 2]])


class Worths(Checks, unittest.TestCase):

    def test_worth(self):
        self.assert_answer(1, worth, row=[A], reading=WORD, sizes=TWO, told=[1])
        self.assert_answer([1, 0], worth, row=[AB], reading=WORD, sizes=TWO, told=[[1, 0]])
        self.assert_answer(0, worth, row=[AB, B], reading=BOTH, sizes=TWO, told=[[1, 0], 1])
        self.assert_answer(1, worth, row=[AB, B], reading=BOTH, sizes=TWO, told=[[1, 0], 0])
        self.assert_answer(2, worth, row=[A, AS], reading=("ahead", WORD, WORD), sizes=[("a", 2), ("s", 3)],
                           told=[1, [0, 2]])
        self.assert_answer([0, 1, 0, 1], worth, row=[A], reading=LIFT, sizes=TWO, told=[1])
        self.assert_answer([1, 0], worth, row=[AB], reading=("givebehind", B, BOTH), sizes=TWO, told=[[1, 0]])
        self.assert_answer([0, 0, 1, 1], worth, row=[B], reading=("giveahead", AB, BOTH), sizes=TWO, told=[0])
        self.assert_answer([0, 1, 0, 1], worth, row=[B], reading=("giveahead", AB, BOTH), sizes=TWO, told=[1])
        self.assert_answer([[0, 1]], worth, row=[behind(AB, C)], reading=WORD, sizes=ODD_SIZES[:1] + [("b", 2), ("c", 1)],
                           told=[[[0, 1]]])

    def test_worths(self):
        self.assert_answer([0, 1], worths, row=[A], reading=WORD, sizes=TWO)
        self.assert_answer([0, 0, 0, 1, 1, 0, 1, 1], worths, row=[AB, B], reading=BOTH, sizes=TWO)
        self.assert_answer([0, 0, 1, 1, 0, 1, 0, 1], worths, row=[A, ahead(A, B)], reading=("ahead", WORD, WORD), sizes=TWO)
        self.assert_answer([[0, 0, 1, 1], [0, 1, 0, 1]], worths, row=[A], reading=LIFT, sizes=TWO)
        self.assert_answer([0], worths, row=[C], reading=WORD, sizes=[("c", 1)])
        self.assert_answer([[0], [1], [2]], worths, row=[behind(A, C)], reading=WORD, sizes=[("a", 3), ("c", 1)])
        self.assert_answer([[0, 0]], worths, row=[behind(C, A)], reading=("givebehind", A, BOTH),
                           sizes=[("a", 2), ("c", 1)])

    def test_first_unlike_worth(self):
        row = [behind(A, A), A, ahead(A, A)]
        one = ("ahead", BOTH, WORD)
        other = ("behind", WORD, ("ahead", WORD, WORD))
        self.assert_answer(None, first_unlike_worth, row=row, one=one, other=one, sizes=[("a", 2)])
        self.assert_answer(None, first_unlike_worth, row=row, one=one, other=other, sizes=[("a", 1)])
        self.assert_answer([[0, 0], 0, [1, 0]], first_unlike_worth, row=row, one=one, other=other, sizes=[("a", 2)])
        self.assert_answer([[0, 0], 0, [1, 0]], first_unlike_worth, row=row, one=other, other=one, sizes=[("a", 2)])
        self.assert_answer(None, first_unlike_worth, row=[AB], one=WORD, other=("givebehind", B, BOTH), sizes=TWO)

    def test_unlike_kinds_are_not_compared(self):
        # In both, the list tells what each list of two things has at the place of the thing.
        lift_ahead = ("giveahead", behind(B, A), BOTH)
        self.assert_answer(None, first_unlike_worth, row=[A], one=LIFT, other=lift_ahead, sizes=TWO)
        self.assert_answer([0], first_unlike_worth, row=[A], one=LIFT, other=WORD, sizes=TWO)
        self.assert_answer(None, first_unlike_worth, row=[AB], one=WORD,
                           other=("givebehind", B, BOTH), sizes=[("a", 1), ("b", 3)])
        other = ("givebehind", ahead(A, C), ("ahead", WORD, WORD))
        self.assert_answer(None, first_unlike_worth, row=[A], one=LIFT, other=other,
                           sizes=[("a", 2), ("b", 2), ("c", 2)])
        self.assert_answer([0], first_unlike_worth, row=[A], one=LIFT, other=other,
                           sizes=[("a", 2), ("b", 2), ("c", 1)])

    def test_lists_of_things_go_on_with_the_last_one_quickest(self):
        row = [behind(A, B), B]
        sizes = [("a", 2), ("b", 3)]
        table = dict(sizes)
        lists = [list(told) for told in product(slow_things(row[0], table), slow_things(row[1], table))]
        self.assertEqual(worths(row, BOTH, sizes), [worth(row, BOTH, sizes, told) for told in lists])
        self.assertEqual(worths(row, BOTH, sizes), [told[0][told[1]] for told in lists])

    def test_worths_by_the_words_of_the_document(self):
        tried = gives = 0
        for number, (row, reading) in enumerate(some_readings(900)):
            sizes = [TWO, ODD_SIZES, [("a", 3), ("b", 1)]][number % 3]
            table = dict(sizes)
            if not few_things(row, reading, table):
                continue
            tried += 1
            gives += bool(givens(reading))
            lists = [list(told) for told in product(*[slow_things(kind, table) for kind in row])]
            told = [slow_worth(row, one, reading, table)[1] for one in lists]
            self.assertEqual(worths(row, reading, sizes), told)
            self.assertEqual(worth(row, reading, sizes, lists[-1]), told[-1])
            # Steps and the long form leave the worth as it is.
            for _, other in next_readings(reading):
                self.assertIsNone(first_unlike_worth(row, reading, other, sizes))
                self.assertEqual([slow_worth(row, one, other, table)[1] for one in lists], told)
            long = long_form(row, reading)
            if few_things(row, long, table):
                self.assertIsNone(first_unlike_worth(row, reading, long, sizes))
                self.assertEqual([slow_worth(row, one, long, table)[1] for one in lists], told)
        self.assertGreater(tried, 200)
        self.assertGreater(gives, 50)

    def test_first_unlike_worth_by_all_worths(self):
        chance = random.Random(4)
        alike = unlike = 0
        for _ in range(3000):
            row, kind = any_row(chance, chance.choice([4, 6, 8]), 4, "a")
            readings = slow_readings(tuple(row), kind)
            for one, other in product(readings, readings):
                for sizes in ([("a", 1)], [("a", 2)]):
                    if not few_things(row, one, dict(sizes)) or not few_things(row, other, dict(sizes)):
                        continue
                    lists = product(*[slow_things(part, dict(sizes)) for part in row])
                    first = next((list(told) for told in lists if slow_worth(row, list(told), one, dict(sizes))
                                  != slow_worth(row, list(told), other, dict(sizes))), None)
                    self.assertEqual(first_unlike_worth(row, one, other, sizes), first)
                    unlike += first is not None
                    alike += first is None and one != other
        self.assertGreater(unlike, 20)
        self.assertGreater(alike, 20)

    def test_lists_in_answers_are_new(self):
        kind = behind(behind(A, C), B)
        sizes = [("a", 2), ("b", 2), ("c", 1)]
        found = things(kind, sizes)
        found[0][0].append(7)
        found[0].append(8)
        self.assertEqual(things(kind, sizes), slow_things(kind, dict(sizes)))
        self.assert_unshared(worths([kind], WORD, sizes), [])
        told = [[[1], [0]]]
        found = worth([kind], WORD, sizes, told)
        found[0].append(5)
        self.assertEqual(told, [[[1], [0]]])


if __name__ == "__main__":
    unittest.main()
