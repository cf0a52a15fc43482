"""readings.py: what the functions answer."""

import unittest

from samples import A, AB, AS, B, BC, BOTH, C, DEEP, LIFT, S, WORD, Checks, ahead, all_readings, behind
from samples import bare, long_by_words, next_readings, put_for_name, row_width, shown, some_readings, with_names
from waitwords.errors import InvalidReading
from waitwords.kinds import lifted
from waitwords.readings import after_step, is_long, is_short, kind_of, long_form, put_in
from waitwords.readings import same_readings, shortened, steps, turned_reading, width

LIFT_AHEAD = ("giveahead", ("behind", B, A), ("behind", WORD, WORD))
JOINED = ("givebehind", C, ("behind", WORD, ("behind", WORD, WORD)))
# Gives within gives: of three kinds the middle one alone stands in the row.
MIDDLE = ("givebehind", C, ("giveahead", A, ("behind", WORD, ("ahead", WORD, WORD))))


class Shown(Checks, unittest.TestCase):

    def test_width(self):
        self.assert_answer(1, width, reading=WORD)
        self.assert_answer(2, width, reading=BOTH)
        self.assert_answer(3, width, reading=("ahead", BOTH, WORD))
        self.assert_answer(1, width, reading=LIFT)
        self.assert_answer(2, width, reading=JOINED)
        self.assert_answer(1, width, reading=MIDDLE)
        self.assert_answer(2, width, reading=("behind", LIFT, LIFT))

    def test_width_of_all_small_readings(self):
        for reading in all_readings(8):
            self.assertEqual(width(reading), row_width(reading))

    def test_kind_of(self):
        self.assert_answer(A, kind_of, row=[A], reading=WORD)
        self.assert_answer(DEEP, kind_of, row=[DEEP], reading=WORD)
        self.assert_answer(A, kind_of, row=[AB, B], reading=BOTH)
        self.assert_answer(S, kind_of, row=[A, AS], reading=("ahead", WORD, WORD))
        self.assert_answer(lifted(A, B, True), kind_of, row=[A], reading=LIFT)
        self.assert_answer(lifted(A, B, False), kind_of, row=[A], reading=LIFT_AHEAD)
        self.assert_answer(("behind", A, C), kind_of, row=[AB, BC], reading=JOINED)
        self.assert_answer(B, kind_of, row=[A, ("behind", ahead(A, B), C), C],
                           reading=("ahead", WORD, ("behind", WORD, WORD)))

    def test_kind_of_gives_within_gives(self):
        inner = ahead(C, B)
        self.assert_refused(InvalidReading, ("ahead", WORD, WORD), kind_of, [inner], MIDDLE)
        middle = ("givebehind", C, ("giveahead", A, ("ahead", WORD, ("behind", WORD, WORD))))
        kind = ("behind", ahead(A, S), C)
        self.assert_answer(("behind", ("ahead", A, S), C), kind_of, row=[kind], reading=middle)
        other = ("giveahead", A, ("givebehind", C, ("ahead", WORD, ("behind", WORD, WORD))))
        self.assert_answer(("ahead", A, ("behind", S, C)), kind_of, row=[kind], reading=other)

    def test_kind_of_gives_that_are_put_back(self):
        self.assert_answer(A, kind_of, row=[AB, B], reading=("behind", ("givebehind", B, BOTH), WORD))
        self.assert_answer(A, kind_of, row=[AB, B], reading=("ahead", WORD, ("giveahead", AB, BOTH)))
        back = ("ahead", WORD, ("giveahead", AB, ("behind", ("givebehind", B, BOTH), WORD)))
        self.assert_answer(A, kind_of, row=[AB, B], reading=back)

    def test_kind_of_agrees_with_the_words_of_the_document(self):
        kinds = [A, AB, ahead(A, B), ("behind", AB, A)]
        rows = [[kind] for kind in kinds] + [[one, other] for one in kinds for other in kinds]
        for reading in all_readings(7, (A, AB)):
            for row in rows:
                if row_width(reading) != len(row):
                    continue
                found = shown(row, reading)
                if isinstance(found, list):
                    self.assertEqual(kind_of(row, reading), found[0])
                else:
                    self.assert_refused(InvalidReading, found, kind_of, row, reading)

    def test_put_in(self):
        self.assert_answer(BOTH, put_in, reading=WORD, at=0, other=BOTH)
        self.assert_answer(LIFT, put_in, reading=LIFT, at=0, other=WORD)
        self.assert_answer(("behind", LIFT, WORD), put_in, reading=BOTH, at=0, other=LIFT)
        self.assert_answer(("behind", WORD, LIFT), put_in, reading=BOTH, at=1, other=LIFT)
        self.assert_answer(("givebehind", ("ahead", A, B), ("ahead", BOTH, WORD)), put_in,
                           reading=LIFT, at=0, other=BOTH)
        self.assert_answer(("giveahead", ("behind", B, A), ("behind", WORD, LIFT)), put_in,
                           reading=LIFT_AHEAD, at=0, other=LIFT)
        self.assert_answer(("givebehind", C, ("giveahead", A, ("behind", WORD, ("ahead", BOTH, WORD)))), put_in,
                           reading=MIDDLE, at=0, other=BOTH)
        self.assert_answer(("behind", JOINED, ("behind", WORD, LIFT)), put_in,
                           reading=("behind", JOINED, BOTH), at=3, other=LIFT)

    def test_put_in_by_names(self):
        for reading in all_readings(7):
            term, free = with_names(reading)
            for at in range(width(reading)):
                for other in (WORD, BOTH, LIFT):
                    told = bare(put_for_name(term, free[at], with_names(other)[0]))
                    self.assertEqual(put_in(reading, at, other), told)

    def test_turned_reading(self):
        self.assert_answer(WORD, turned_reading, reading=WORD)
        self.assert_answer(("ahead", LIFT_AHEAD, WORD), turned_reading, reading=("behind", WORD, LIFT))
        self.assert_answer(("behind", WORD, LIFT), turned_reading, reading=("ahead", LIFT_AHEAD, WORD))
        self.assert_answer(("giveahead", C, ("ahead", ("ahead", WORD, WORD), WORD)), turned_reading, reading=JOINED)
        self.assert_answer(("giveahead", ("behind", S, A), BOTH), turned_reading,
                           reading=("givebehind", AS, ("ahead", WORD, WORD)))
        for reading in all_readings(7, (AB,)):
            self.assertEqual(turned_reading(turned_reading(reading)), reading)
            self.assertEqual(width(turned_reading(reading)), width(reading))


class Steps(Checks, unittest.TestCase):

    def test_steps(self):
        back = ("behind", LIFT, WORD)
        self.assert_answer([], steps, reading=WORD)
        self.assert_answer([], steps, reading=LIFT)
        self.assert_answer([[]], steps, reading=back)
        self.assert_answer([[]], steps, reading=("ahead", WORD, LIFT_AHEAD))
        self.assert_answer([[1], [2]], steps, reading=("behind", back, back))
        self.assert_answer([[], [2]], steps, reading=("behind", LIFT, back))
        inner = ("givebehind", A, ("ahead", WORD, back))
        self.assert_answer([[], [1, 2, 2]], steps, reading=("behind", inner, WORD))
        inner = ("ahead", back, ("giveahead", A, ("behind", WORD, back)))
        self.assert_answer([[2], [2, 1], [2, 2, 2, 2]], steps, reading=("givebehind", A, inner))

    def test_a_step_wants_the_give_of_its_own_side(self):
        self.assert_answer([], steps, reading=("behind", LIFT_AHEAD, WORD))
        self.assert_answer([], steps, reading=("ahead", WORD, LIFT))
        self.assert_answer([], steps, reading=("ahead", LIFT, WORD))
        self.assert_answer([], steps, reading=("behind", WORD, LIFT))
        self.assert_answer([[]], steps, reading=("behind", LIFT, ("behind", LIFT_AHEAD, WORD)))

    def test_after_step(self):
        back = ("behind", LIFT, WORD)
        self.assert_answer(("ahead", WORD, WORD), after_step, reading=back, place=[])
        self.assert_answer(("ahead", WORD, BOTH), after_step, reading=("behind", LIFT, BOTH), place=[])
        self.assert_answer(("behind", BOTH, WORD), after_step, reading=("ahead", BOTH, LIFT_AHEAD), place=[])
        self.assert_answer(("behind", back, ("ahead", WORD, WORD)), after_step,
                           reading=("behind", back, back), place=[2])
        self.assert_answer(("behind", WORD, ("behind", WORD, BOTH)), after_step,
                           reading=("behind", JOINED, BOTH), place=[])

    def test_after_step_with_gives_within(self):
        three = ("behind", ("behind", ("behind", WORD, WORD), WORD), WORD)
        inner = ("givebehind", C, ("givebehind", B, three))
        self.assert_answer(("givebehind", B, ("behind", ("behind", ("behind", WORD, WORD), LIFT), WORD)), after_step,
                           reading=("behind", inner, LIFT), place=[])
        inner = ("giveahead", C, ("giveahead", B, three))
        self.assert_answer(("giveahead", B, ("behind", ("behind", ("behind", WORD, LIFT), WORD), WORD)), after_step,
                           reading=("ahead", LIFT, inner), place=[])
        inner = ("givebehind", C, ("giveahead", B, three))
        self.assert_answer(("giveahead", B, ("behind", ("behind", ("behind", WORD, WORD), WORD), LIFT)), after_step,
                           reading=("behind", inner, LIFT), place=[])

    def test_steps_by_names(self):
        for reading in all_readings(9):
            told = next_readings(reading)
            self.assertEqual(steps(reading), [place for place, _ in told])
            for place, made in told:
                self.assertEqual(after_step(reading, place), made)

    def test_is_short(self):
        self.assert_answer(True, is_short, reading=WORD)
        self.assert_answer(True, is_short, reading=LIFT)
        self.assert_answer(False, is_short, reading=("behind", LIFT, WORD))
        self.assert_answer(False, is_short, reading=("givebehind", A, ("ahead", WORD, ("ahead", WORD, LIFT_AHEAD))))
        self.assert_answer(True, is_short, reading=("ahead", WORD, LIFT))

    def test_shortened(self):
        self.assert_answer(WORD, shortened, reading=WORD)
        self.assert_answer(LIFT, shortened, reading=LIFT)
        self.assert_answer(("ahead", WORD, WORD), shortened, reading=("behind", LIFT, WORD))
        # The step of the one makes the other one possible.
        waits = ("giveahead", A, ("ahead", WORD, WORD))
        self.assert_answer(("ahead", WORD, WORD), shortened, reading=("behind", LIFT, waits))
        self.assert_answer(("behind", WORD, WORD), shortened, reading=("ahead", WORD, LIFT_AHEAD))

    def test_after_step_of_a_kind_five_deep(self):
        give = ("givebehind", DEEP, BOTH)
        self.assert_answer(BOTH, after_step, reading=("behind", give, WORD), place=[])
        self.assert_answer(A, kind_of, row=[("behind", A, DEEP), DEEP], reading=("behind", give, WORD))


class Long(Checks, unittest.TestCase):

    def test_is_long(self):
        self.assert_answer(True, is_long, row=[A], reading=WORD)
        self.assert_answer(False, is_long, row=[AB], reading=WORD)
        self.assert_answer(True, is_long, row=[AB], reading=("givebehind", B, BOTH))
        self.assert_answer(True, is_long, row=[AB, B], reading=BOTH)
        self.assert_answer(False, is_long, row=[("behind", A, AB), AB], reading=BOTH)
        self.assert_answer(True, is_long, row=[("behind", A, AB), AB], reading=("behind", WORD, ("givebehind", B, BOTH)))
        self.assert_answer(False, is_long, row=[("behind", AB, C), C], reading=BOTH)
        self.assert_answer(False, is_long, row=[AB, B], reading=("behind", ("givebehind", B, BOTH), WORD))
        self.assert_answer(True, is_long, row=[A], reading=LIFT)
        self.assert_answer(False, is_long, row=[AB], reading=("givebehind", ahead(AB, B), ("ahead", WORD, WORD)))

    def test_long_form(self):
        self.assert_answer(WORD, long_form, row=[A], reading=WORD)
        self.assert_answer(("givebehind", B, BOTH), long_form, row=[AB], reading=WORD)
        self.assert_answer(("giveahead", A, ("ahead", WORD, WORD)), long_form, row=[AS], reading=WORD)
        self.assert_answer(("givebehind", C, ("givebehind", B, ("behind", BOTH, WORD))), long_form,
                           row=[("behind", AB, C)], reading=WORD)
        self.assert_answer(("givebehind", AB, ("behind", WORD, ("givebehind", B, BOTH))), long_form,
                           row=[("behind", A, AB)], reading=WORD)
        self.assert_answer(("givebehind", B, ("giveahead", A, ("ahead", WORD, BOTH))), long_form,
                           row=[("behind", AS, B)], reading=WORD)
        self.assert_answer(("giveahead", A, ("givebehind", B, ("behind", ("ahead", WORD, WORD), WORD))), long_form,
                           row=[ahead(A, behind(S, B))], reading=WORD)
        self.assert_answer(("givebehind", ahead(A, B), ("ahead", WORD, WORD)), long_form, row=[A], reading=LIFT)
        self.assert_answer(BOTH, long_form, row=[AB, B], reading=("behind", ("givebehind", B, BOTH), WORD))

    def test_long_form_by_the_words_of_the_document(self):
        for row, reading in some_readings(400):
            found = long_form(row, reading)
            self.assertEqual(next_readings(found), [])
            self.assertTrue(long_by_words(row, found))
            self.assertEqual(shown(row, found), shown(row, reading))
            self.assertTrue(is_long(row, found))
            self.assertEqual(long_form(row, found), found)
            self.assertEqual(is_long(row, reading), is_short(reading) and long_by_words(row, reading))

    def test_same_readings(self):
        back = ("behind", ("givebehind", B, BOTH), WORD)
        self.assert_answer(True, same_readings, row=[AB, B], one=back, other=BOTH)
        self.assert_answer(True, same_readings, row=[AB], one=WORD, other=("givebehind", B, BOTH))
        turn = ahead(A, A)
        row = [behind(A, A), A, turn]
        one = ("ahead", BOTH, WORD)
        other = ("behind", WORD, ("ahead", WORD, WORD))
        self.assert_answer(False, same_readings, row=row, one=one, other=other)
        self.assert_answer(True, same_readings, row=row, one=one, other=one)

    def test_same_readings_that_show_unlike_kinds(self):
        self.assert_answer(False, same_readings, row=[A], one=WORD, other=LIFT)
        self.assert_answer(False, same_readings, row=[A], one=LIFT, other=LIFT_AHEAD)
        self.assert_answer(False, same_readings, row=[A], one=LIFT, other=("givebehind", AS, ("ahead", WORD, WORD)))


if __name__ == "__main__":
    unittest.main()
