"""values.py: what the functions refuse, and which error comes first."""

import unittest

from samples import A, AB, B, BOTH, C, LIFT, ODD, WITH, WORD, Checks, ahead, behind
from waitwords.errors import InvalidKind, InvalidReading, InvalidRow, InvalidSizes, InvalidThing, NotSingle
from waitwords.values import first_unlike_worth, how_many_things, place_of, things, worth, worths

TWO = [("a", 2), ("b", 2)]
BAD = ("plain", "B")
WRONG_SIZES = [
    [("a", 0), ("b", 2)], [("a", 4), ("b", 2)], [("a", 2), ("b", -1)], [("b", 2), ("a", 2)], [("a", 2), ("a", 2), ("b", 2)],
    [("a", 2), ("b", 2), ("b", 3)], [("A", 2), ("a", 2), ("b", 2)], [("", 1), ("a", 2), ("b", 2)],
    [("a", 2), ("aa", 2), ("b", 2)], [("a", 2), ("b", 2), ("c", 0)], [("a", 2), ("b", 2), ("c", 100)],
    [("a", 2), ("b", 2), ("{", 1)],
]
LACKING = [[], [("a", 2)], [("b", 2)], [("b", 3), ("c", 1)]]
OF_A_KIND = [how_many_things, things, lambda kind, sizes: place_of(kind, sizes, [0, 0]),
             lambda kind, sizes: place_of(kind=kind, sizes=sizes, thing=99)]
OF_A_READING = [
    worths, lambda row, reading, sizes: worth(row, reading, sizes, [[0, 0], 0]),
    lambda row, reading, sizes: worth(row=row, reading=reading, sizes=sizes, told=[]),
    lambda row, reading, sizes: first_unlike_worth(row, reading, reading, sizes),
]


class Kinds(Checks, unittest.TestCase):

    def test_invalid_kind(self):
        for function in OF_A_KIND:
            self.assert_refused(InvalidKind, BAD, function, BAD, TWO)
            self.assert_refused(InvalidKind, ODD, function, kind=behind(A, ODD), sizes=[("b", 9)])

    def test_invalid_sizes(self):
        for sizes in WRONG_SIZES + LACKING:
            for function in OF_A_KIND:
                self.assert_refused(InvalidSizes, sizes, function, AB, sizes)
                self.assert_refused(InvalidSizes, sizes, function, kind=WITH, sizes=sizes)
        self.assertEqual(how_many_things(A, [("a", 2)]), 2)
        self.assertEqual(how_many_things(A, [("a", 2), ("z", 3)]), 2)

    def test_invalid_thing(self):
        for thing in (-1, 2, 3, 100, [], [0], (0, 0), [0, 0]):
            self.assert_refused(InvalidThing, thing, place_of, A, TWO, thing)
        for thing in (0, 1, [], [0], [0, 0, 0], [0, 2], [-1, 0], (0, 0), [[0], 0], [0, [0]], [(0, 0), 0]):
            self.assert_refused(InvalidThing, thing, place_of, AB, TWO, thing)
            self.assert_refused(InvalidThing, thing, place_of, kind=ahead(B, A), sizes=TWO, thing=thing)
        for thing in (0, [0, 0], (), (0,), (0, 0, 0), (0, 2), (2, 0), (0, [0]), ((0, 0), 0)):
            self.assert_refused(InvalidThing, thing, place_of, WITH, TWO, thing)
        for thing in ([[0, 0]], [0, 0], [[0, 0], [0, 2]], [[0, 0], 0], [[0, 0], [0, 0], [0, 0]], [([0], 0), [0, 0]]):
            self.assert_refused(InvalidThing, thing, place_of, behind(AB, B), TWO, thing)

    def test_lists_that_an_error_holds_are_new(self):
        shared = [0]
        thing = [shared, (shared, [shared])]
        with self.assertRaises(InvalidThing) as caught:
            place_of(behind(AB, B), TWO, thing)
        self.assertEqual(caught.exception.value, thing)
        self.assert_unshared(caught.exception.value, thing)
        sizes = [("a", 0)]
        with self.assertRaises(InvalidSizes) as caught:
            things(A, sizes)
        caught.exception.value.append(("b", 1))
        self.assertEqual(sizes, [("a", 0)])


class Readings(Checks, unittest.TestCase):

    def test_the_errors_of_readings_come_first(self):
        give = ("givebehind", BAD, BOTH)
        with_give = ("givebehind", WITH, BOTH)
        for function in OF_A_READING:
            self.assert_refused(InvalidKind, ODD, function, [A, ODD], give, [("b", 0)])
            self.assert_refused(InvalidKind, BAD, function, [WITH], ("behind", with_give, give), [])
            self.assert_refused(InvalidRow, [], function, [], with_give, [])
            self.assert_refused(NotSingle, behind(A, WITH), function, [A, behind(A, WITH)], with_give, [])
            self.assert_refused(NotSingle, WITH, function, [A], with_give, [])
            self.assert_refused(InvalidReading, ODD, function, [A], ODD, [])
            self.assert_refused(InvalidReading, BOTH, function, [A], BOTH, [("a", 7)])
            self.assert_refused(InvalidReading, BOTH, function, [A, A], BOTH, [])
        self.assert_refused(InvalidReading, BOTH, first_unlike_worth, [A], WORD, BOTH, [])
        self.assert_refused(InvalidReading, ODD, first_unlike_worth, row=[A], one=ODD, other=BOTH, sizes=[])
        self.assert_refused(InvalidKind, BAD, first_unlike_worth, [A], ODD, give, [])

    def test_not_single_with_any_number_of_things(self):
        huge = behind(behind(behind(A, AB), AB), WITH)
        self.assert_refused(NotSingle, huge, worths, [huge], WORD, [("a", 3), ("b", 3)])

    def test_invalid_sizes(self):
        for sizes in WRONG_SIZES + LACKING:
            for function in OF_A_READING:
                self.assert_refused(InvalidSizes, sizes, function, [AB, B], BOTH, sizes)
            self.assert_refused(InvalidSizes, sizes, worths, row=[AB], reading=WORD, sizes=sizes)

    def test_sizes_that_lack_a_letter_of_a_given_kind(self):
        # The letter b is given, and stands in no kind of the row.
        for function in OF_A_READING:
            self.assert_refused(InvalidSizes, [("a", 2)], function, [A], LIFT, [("a", 2)])
        self.assert_refused(InvalidSizes, [("a", 2)], first_unlike_worth, [A], WORD, LIFT, [("a", 2)])
        self.assert_refused(InvalidSizes, [("a", 2)], first_unlike_worth, [A], LIFT, WORD, [("a", 2)])
        # A step takes it away; it is given all the same.
        back = ("ahead", ("behind", ("givebehind", ahead(A, C), ("ahead", WORD, WORD)), WORD), WORD)
        row = [A, ahead(A, C), ahead(C, B)]
        self.assert_refused(InvalidSizes, TWO, worths, row, back, TWO)
        self.assertEqual(len(worths(row, back, [("a", 2), ("b", 2), ("c", 1)])), 4)

    def test_as_many_things_as_kinds(self):
        for told in ([], [[0, 0]], [[0, 0], 0, 0], [9, 9, 9]):
            self.assert_refused(InvalidThing, told, worth, [AB, B], BOTH, TWO, told)
            self.assert_refused(InvalidThing, told, worth, row=[AB, B], reading=BOTH, sizes=TWO, told=told)

    def test_the_first_thing_that_is_none(self):
        self.assert_refused(InvalidThing, [0, 2], worth, [AB, B], BOTH, TWO, [[0, 2], 7])
        self.assert_refused(InvalidThing, 7, worth, [AB, B], BOTH, TWO, [[0, 1], 7])
        self.assert_refused(InvalidThing, (0, 0), worth, row=[AB, B], reading=BOTH, sizes=TWO, told=[(0, 0), [0]])
        self.assert_refused(InvalidThing, [0], worth, [AB, B], BOTH, TWO, [[0, 0], [0]])

    def test_the_list_that_an_error_holds_is_new(self):
        told = [[0, 2], [1]]
        for wrong in (told, told + [0]):
            with self.assertRaises(InvalidThing) as caught:
                worth([AB, B], BOTH, TWO, wrong)
            caught.exception.value.append(1)
            self.assertEqual(told, [[0, 2], [1]])
            self.assert_unshared(caught.exception.value, wrong)


class BehindARefusedCall(Checks, unittest.TestCase):

    def test_all_is_as_ahead(self):
        calls = [
            (how_many_things, (AB, TWO), (AB, [])), (things, (AB, TWO), (ODD, TWO)),
            (place_of, (AB, TWO, [0, 1]), (AB, TWO, [0, 2])), (worth, ([AB, B], BOTH, TWO, [[1, 0], 1]), ([AB], BOTH, TWO, [])),
            (worths, ([A], LIFT, TWO), ([A], LIFT, [("a", 2)])), (first_unlike_worth, ([A], LIFT, WORD, TWO), ([], LIFT, WORD, TWO)),
        ]
        self.assert_as_ahead(calls)


if __name__ == "__main__":
    unittest.main()
