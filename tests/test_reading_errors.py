"""readings.py: what the functions refuse, and which error comes first."""

import unittest

from samples import A, AB, B, BOTH, C, DEEP_WITH, LIFT, ODD, S, WITH, WORD, Checks, behind
from waitwords.errors import InvalidKind, InvalidPlace, InvalidReading, InvalidRow, NotSingle
from waitwords.readings import after_step, is_long, is_short, kind_of, long_form, put_in
from waitwords.readings import same_readings, shortened, steps, turned_reading, width

BAD_KIND = ("plain", "B")
BAD_KIND_GIVE = ("givebehind", BAD_KIND, BOTH)
WITH_GIVE = ("givebehind", behind(A, WITH), BOTH)
NARROW = ("givebehind", A, WORD)
OF_NO_ROW = [
    width, is_short, steps, shortened, turned_reading,
    lambda reading: after_step(reading, [0]), lambda reading: after_step(reading=reading, place=[]),
    lambda reading: put_in(reading, -1, WORD), lambda reading: put_in(reading=reading, at=0, other=WORD),
    lambda reading: put_in(WORD, 0, reading), lambda reading: put_in(WORD, 5, reading),
]
OF_A_ROW = [
    kind_of, is_long, long_form,
    lambda row, reading: same_readings(row, reading, reading),
]


class NoRow(Checks, unittest.TestCase):

    def assert_all_refuse(self, error, value, reading):
        for function in OF_NO_ROW:
            self.assert_refused(error, value, function, reading)

    def test_invalid_kind(self):
        self.assert_all_refuse(InvalidKind, BAD_KIND, BAD_KIND_GIVE)
        self.assert_all_refuse(InvalidKind, ODD, ("giveahead", behind(A, ODD), BOTH))
        self.assert_all_refuse(InvalidKind, WORD, ("giveahead", WORD, BOTH))
        inner = ("ahead", ("givebehind", ODD, BOTH), ("givebehind", BAD_KIND, BOTH))
        self.assert_all_refuse(InvalidKind, ODD, inner)
        self.assert_all_refuse(InvalidKind, BAD_KIND, ("giveahead", behind(A, BAD_KIND), inner))

    def test_invalid_kind_comes_first(self):
        self.assert_all_refuse(InvalidKind, BAD_KIND, ("behind", ODD, ("behind", WITH_GIVE, BAD_KIND_GIVE)))
        self.assert_all_refuse(InvalidKind, BAD_KIND, ("givebehind", BAD_KIND, WORD))

    def test_a_tuple_of_another_first_text_is_not_looked_into(self):
        odd = ("odd", BAD_KIND_GIVE, WITH_GIVE, [1])
        self.assert_all_refuse(InvalidReading, odd, odd)
        self.assert_all_refuse(InvalidReading, odd, ("ahead", odd, WORD))

    def test_not_single(self):
        self.assert_all_refuse(NotSingle, WITH, ("givebehind", WITH, BOTH))
        self.assert_all_refuse(NotSingle, DEEP_WITH, ("giveahead", DEEP_WITH, BOTH))
        self.assert_all_refuse(NotSingle, behind(A, WITH), ("behind", WITH_GIVE, ("givebehind", WITH, BOTH)))
        self.assert_all_refuse(NotSingle, WITH, ("givebehind", WITH, ("behind", WITH_GIVE, WORD)))
        self.assert_all_refuse(NotSingle, behind(A, WITH), ("behind", ("behind", ODD, NARROW), WITH_GIVE))

    def test_another_first_text(self):
        for part in (ODD, ("plain", "a"), WITH, ("name", "x"), ("same", A), ("",), ("Word",)):
            self.assert_all_refuse(InvalidReading, part, part)
            self.assert_all_refuse(InvalidReading, part, ("givebehind", A, ("ahead", WORD, part)))
            self.assert_all_refuse(InvalidReading, part, ("behind", part, ODD))
            self.assert_all_refuse(InvalidReading, part, ("givebehind", A, part))

    def test_a_width_below_one(self):
        for text in ("givebehind", "giveahead"):
            narrow = (text, AB, WORD)
            self.assert_all_refuse(InvalidReading, narrow, narrow)
            self.assert_all_refuse(InvalidReading, narrow, ("behind", WORD, narrow))
            self.assert_all_refuse(InvalidReading, narrow, (text, AB, narrow))
            self.assert_all_refuse(InvalidReading, (text, AB, LIFT), (text, AB, LIFT))
            self.assert_all_refuse(InvalidReading, (text, S, LIFT), ("ahead", WORD, ("behind", (text, S, LIFT), WORD)))

    def test_parts_within_come_ahead_from_the_left(self):
        other = ("giveahead", B, WORD)
        self.assert_all_refuse(InvalidReading, NARROW, ("behind", NARROW, other))
        self.assert_all_refuse(InvalidReading, other, ("behind", other, NARROW))
        self.assert_all_refuse(InvalidReading, NARROW, ("behind", ("behind", WORD, NARROW), ODD))
        self.assert_all_refuse(InvalidReading, ODD, ("behind", ("givebehind", A, ODD), NARROW))
        self.assert_all_refuse(InvalidReading, NARROW, ("givebehind", A, ("ahead", ("giveahead", A, NARROW), ODD)))

    def test_readings_that_show_nothing_are_taken(self):
        nothing = ("givebehind", A, ("ahead", ("behind", WORD, LIFT), ("givebehind", B, BOTH)))
        self.assertEqual([width(nothing), is_short(nothing), steps(nothing)], [2, True, []])
        self.assertEqual(shortened(("behind", nothing, WORD)), nothing[2][:2] + (put_in(nothing[2][2], 0, WORD),))
        self.assertEqual(put_in(nothing, 1, WORD), nothing)

    def test_both_readings_in_order(self):
        self.assert_refused(InvalidKind, BAD_KIND, put_in, ODD, 7, BAD_KIND_GIVE)
        self.assert_refused(InvalidKind, BAD_KIND, put_in, BAD_KIND_GIVE, 0, ("givebehind", ODD, BOTH))
        self.assert_refused(NotSingle, behind(A, WITH), put_in, NARROW, 7, WITH_GIVE)
        self.assert_refused(NotSingle, WITH, put_in, ("givebehind", WITH, WORD), 0, WITH_GIVE)
        self.assert_refused(InvalidReading, NARROW, put_in, NARROW, 7, ODD)
        self.assert_refused(InvalidReading, ODD, put_in, WORD, 7, ODD)


class Places(Checks, unittest.TestCase):

    def test_put_in(self):
        for reading, wide in ((WORD, 1), (BOTH, 2), (LIFT, 1), (("behind", LIFT, BOTH), 3)):
            for at in (-10, -2, -1, wide, wide + 1, 100):
                self.assert_refused(InvalidPlace, at, put_in, reading, at, WORD)
                self.assert_refused(InvalidPlace, at, put_in, reading=reading, at=at, other=LIFT)

    def test_after_step(self):
        for place in ([], [0], [1], [-1], [1, 1], [300], [0, 0, 0]):
            self.assert_refused(InvalidPlace, place, after_step, WORD, place)
            self.assert_refused(InvalidPlace, place, after_step, reading=LIFT, place=place)
        whole = ("behind", ("behind", LIFT, WORD), WORD)
        for place in ([], [-2], [1, 1], [2], [1, 1, 1], [1, 0], [4]):
            self.assert_refused(InvalidPlace, place, after_step, whole, place)
        self.assertEqual(after_step(whole, [1]), ("behind", ("ahead", WORD, WORD), WORD))

    def test_the_place_that_an_error_holds_is_new(self):
        place = [5]
        with self.assertRaises(InvalidPlace) as caught:
            after_step(WORD, place)
        caught.exception.value.append(6)
        self.assertEqual(place, [5])


class Rows(Checks, unittest.TestCase):

    def assert_all_refuse(self, error, value, row, reading):
        for function in OF_A_ROW:
            self.assert_refused(error, value, function, row, reading)
        self.assert_refused(error, value, kind_of, row=row, reading=reading)
        self.assert_refused(error, value, same_readings, row=row, one=reading, other=WORD)

    def test_invalid_kind(self):
        self.assert_all_refuse(InvalidKind, BAD_KIND, [A, behind(B, BAD_KIND), ODD], WORD)
        self.assert_all_refuse(InvalidKind, ODD, [ODD], BAD_KIND_GIVE)
        self.assert_all_refuse(InvalidKind, BAD_KIND, [WITH], BAD_KIND_GIVE)
        self.assert_all_refuse(InvalidKind, BAD_KIND, [], BAD_KIND_GIVE)
        self.assert_all_refuse(InvalidKind, BAD_KIND, [], ("behind", ODD, ("behind", WITH_GIVE, BAD_KIND_GIVE)))

    def test_invalid_row(self):
        self.assert_all_refuse(InvalidRow, [], [], WORD)
        self.assert_all_refuse(InvalidRow, [], [], ("behind", WITH_GIVE, ODD))

    def test_not_single(self):
        self.assert_all_refuse(NotSingle, WITH, [WITH], WORD)
        self.assert_all_refuse(NotSingle, DEEP_WITH, [A, DEEP_WITH, WITH], WITH_GIVE)
        self.assert_all_refuse(NotSingle, behind(A, WITH), [A], WITH_GIVE)
        self.assert_all_refuse(NotSingle, behind(A, WITH), [A], ("behind", ODD, WITH_GIVE))

    def test_no_reading(self):
        self.assert_all_refuse(InvalidReading, ODD, [A], ODD)
        self.assert_all_refuse(InvalidReading, ODD, [A], ("behind", ODD, NARROW))
        self.assert_all_refuse(InvalidReading, NARROW, [A, B], ("behind", NARROW, ODD))

    def test_another_width_than_the_row_has(self):
        self.assert_all_refuse(InvalidReading, WORD, [A, B], WORD)
        self.assert_all_refuse(InvalidReading, BOTH, [AB], BOTH)
        self.assert_all_refuse(InvalidReading, BOTH, [AB, B, A], BOTH)
        self.assert_all_refuse(InvalidReading, LIFT, [A, ("ahead", A, B)], LIFT)

    def test_the_width_comes_ahead_of_what_shows_nothing(self):
        whole = ("behind", BOTH, ("ahead", WORD, WORD))
        self.assert_all_refuse(InvalidReading, whole, [A, A, A], whole)
        self.assert_all_refuse(InvalidReading, BOTH, [A, A, A, A], whole)
        self.assert_all_refuse(InvalidReading, ODD, [A], ("behind", BOTH, ODD))
        self.assert_all_refuse(InvalidReading, NARROW, [A, A], ("behind", BOTH, NARROW))

    def test_a_part_that_shows_nothing(self):
        behind_back, ahead_back = BOTH, ("ahead", WORD, WORD)
        for row in ([A, A], [AB, A], [("ahead", A, B), A], [AB, AB]):
            self.assert_all_refuse(InvalidReading, behind_back, row, behind_back)
        for row in ([A, A], [B, ("ahead", A, B)], [A, AB], [B, ("behind", A, B)], [("ahead", B, A), B]):
            self.assert_all_refuse(InvalidReading, ahead_back, row, ahead_back)
        self.assert_all_refuse(InvalidReading, ahead_back, [A, A, A], ("ahead", ahead_back, WORD))
        self.assert_all_refuse(InvalidReading, ("givebehind", C, BOTH)[2], [AB], ("givebehind", C, BOTH))
        whole = ("behind", BOTH, WORD)
        self.assert_all_refuse(InvalidReading, whole, [AB, B, B], whole)

    def test_the_first_part_that_shows_nothing(self):
        one, other = ("ahead", WORD, WORD), BOTH
        self.assert_all_refuse(InvalidReading, one, [A] * 4, ("behind", one, other))
        self.assert_all_refuse(InvalidReading, other, [A] * 4, ("behind", other, one))
        self.assert_all_refuse(InvalidReading, other, [A] * 3, ("behind", WORD, other))
        deep = ("ahead", ("giveahead", A, ("behind", one, WORD)), other)
        self.assert_all_refuse(InvalidReading, one, [A] * 4, deep)
        self.assert_all_refuse(InvalidReading, ("behind", one, WORD), [("ahead", A, B)] + [B] * 3, deep)

    def test_all_of_the_one_then_of_the_other(self):
        nothing = ("ahead", WORD, WORD)
        self.assert_refused(InvalidReading, nothing, same_readings, [AB, B], nothing, ODD)
        self.assert_refused(InvalidReading, WORD, same_readings, [AB, B], WORD, ODD)
        self.assert_refused(InvalidReading, ODD, same_readings, [AB, B], BOTH, ODD)
        self.assert_refused(InvalidReading, LIFT, same_readings, [AB, B], BOTH, LIFT)
        self.assert_refused(InvalidReading, nothing, same_readings, row=[AB, B], one=BOTH, other=nothing)
        self.assert_refused(InvalidKind, BAD_KIND, same_readings, [AB, WITH], ODD, BAD_KIND_GIVE)
        self.assert_refused(InvalidKind, ODD, same_readings, [A], ("giveahead", ODD, BOTH), BAD_KIND_GIVE)
        self.assert_refused(InvalidRow, [], same_readings, [], ODD, WITH_GIVE)
        self.assert_refused(NotSingle, behind(A, WITH), same_readings, [A], ODD, WITH_GIVE)
        self.assert_refused(NotSingle, WITH, same_readings, [A], ("giveahead", WITH, BOTH), WITH_GIVE)


class BehindARefusedCall(Checks, unittest.TestCase):

    def test_all_is_as_ahead(self):
        back = ("behind", LIFT, WORD)
        calls = [
            (width, (back,), (NARROW,)), (is_short, (back,), (ODD,)), (steps, (back,), (ODD,)),
            (after_step, (back, []), (back, [1])), (shortened, (back,), (WITH_GIVE,)),
            (put_in, (back, 0, LIFT), (back, 2, LIFT)), (turned_reading, (back,), (BAD_KIND_GIVE,)),
            (kind_of, ([A], LIFT), ([A], BOTH)), (is_long, ([A], LIFT), ([], LIFT)),
            (long_form, ([AB], WORD), ([AB, B], WORD)), (same_readings, ([A], LIFT, WORD), ([A], LIFT, ODD)),
        ]
        self.assert_as_ahead(calls)


if __name__ == "__main__":
    unittest.main()
