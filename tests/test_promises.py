"""What [9] promises of kinds, rows and readings, and readings as deep as [2] lets them be."""

import random
import unittest

from samples import A, AB, B, BOTH, C, S, WORD, all_readings, next_readings, some_readings
from waitwords.kinds import balance, depth, turned, turned_row, word
from waitwords.readings import after_step, is_long, is_short, kind_of, long_form, put_in
from waitwords.readings import same_readings, shortened, steps, turned_reading, width

DEEPEST = 200


def ends(reading):
    """All short readings that steps in any order lead to, as texts."""
    told = {repr(reading): reading}
    found = set()
    while told:
        _, part = told.popitem()
        made = [after_step(part, place) for place in steps(part)]
        told.update({repr(one): one for one in made})
        if not made:
            found.add(repr(part))
    return found


def deepness(reading):
    """How deep the tuples of a reading are, kinds left out."""
    found = 0
    left = [(reading, 1)]
    while left:
        part, deep = left.pop()
        found = max(found, deep)
        left += [(inner, deep + 1) for inner in part[1:] if inner[0] not in ("plain", "with")
                 and (part[0][:4] != "give" or inner is part[2])]
    return found


class Steps(unittest.TestCase):

    def test_any_order_ends_in_one_short_reading(self):
        for reading in all_readings(10)[::9]:
            self.assertEqual(ends(reading), {repr(shortened(reading))})

    def test_any_order_of_readings_that_show_a_kind(self):
        chance = random.Random(3)
        for row, reading in some_readings(300):
            for _ in range(3):
                part = reading
                while steps(part):
                    part = after_step(part, chance.choice(steps(part)))
                    self.assertEqual(kind_of(row, part), kind_of(row, reading))
                self.assertEqual(part, shortened(reading))
            self.assertTrue(is_short(part))

    def test_a_step_keeps_kind_width_and_long_form(self):
        stepped = 0
        for row, reading in some_readings(300):
            for place, made in next_readings(reading):
                stepped += 1
                self.assertEqual(after_step(reading, place), made)
                self.assertEqual(width(made), width(reading))
                self.assertEqual(long_form(row, made), long_form(row, reading))
                self.assertTrue(same_readings(row, made, reading))
        self.assertGreater(stepped, 100)


class Rows(unittest.TestCase):

    def test_word_and_balance_of_row_and_kind(self):
        for row, reading in some_readings(300):
            kind = kind_of(row, reading)
            self.assertEqual(word(row), word([kind]))
            self.assertEqual(balance(row), balance([kind]))

    def test_turned_rows_have_the_turned_readings(self):
        for row, reading in some_readings(300):
            other = turned_reading(reading)
            self.assertEqual(kind_of(turned_row(row), other), turned(kind_of(row, reading)))
            self.assertEqual(long_form(turned_row(row), other), turned_reading(long_form(row, reading)))
            self.assertEqual(len(steps(other)), len(steps(reading)))

    def test_what_is_put_in_shows_its_kind_there(self):
        told = some_readings(300)
        tried = 0
        for row, reading in told:
            for at, kind in enumerate(row):
                for inner, other in told[:60]:
                    if kind_of(inner, other) != kind:
                        continue
                    tried += 1
                    whole = put_in(reading, at, other)
                    wide = row[:at] + inner + row[at + 1:]
                    self.assertEqual(kind_of(wide, whole), kind_of(row, reading))
                    short = put_in(long_form(row, reading), at, long_form(inner, other))
                    self.assertTrue(same_readings(wide, whole, short))
        self.assertGreater(tried, 100)

    def test_detours_do_not_change_the_long_form(self):
        for row, reading in some_readings(300):
            whole = put_in(reading, 0, WORD)
            self.assertEqual(whole, reading)
            if len(row) > 1:
                whole = ("behind", ("givebehind", row[-1], whole), WORD)
                whole = ("ahead", WORD, ("giveahead", row[0], whole))
            kind = kind_of(row, reading)
            if kind[0] == "behind":
                whole = ("givebehind", kind[2], ("behind", whole, WORD))
            self.assertEqual(long_form(row, whole), long_form(row, reading))
            self.assertTrue(same_readings(row, reading, whole))


class Deep(unittest.TestCase):

    def test_detours_put_into_one_another(self):
        detour = ("behind", ("givebehind", B, BOTH), WORD)
        lift = ("givebehind", B, BOTH)
        whole = lift
        while deepness(whole) < DEEPEST - 3:
            whole = put_in(lift, 0, whole)
        self.check([AB], whole, ("givebehind", B, BOTH))
        whole = put_in(detour, 0, whole)
        self.check([AB, B], whole, BOTH)
        self.assertGreaterEqual(deepness(whole), DEEPEST - 3)

    def test_lifts_that_are_put_back_on_both_sides(self):
        aa = ("behind", A, A)
        behind_back = ("behind", ("givebehind", A, BOTH), WORD)
        ahead_back = ("ahead", WORD, ("giveahead", aa, BOTH))
        row, whole, short = [aa, A], BOTH, BOTH
        for number in range(65):
            one = ahead_back if number & 1 else behind_back
            whole = put_in(one, 1, whole)
            short = put_in(BOTH, 1, short)
            row = [aa] + row
        self.check(row, whole, short)

    def test_chain_of_waiting_kinds(self):
        aa = ("behind", A, A)
        whole = WORD
        for _ in range(DEEPEST - 1):
            whole = put_in(BOTH, 1, whole)
        self.assertEqual(deepness(whole), DEEPEST)
        self.check([aa] * (DEEPEST - 1) + [A], whole, whole)

    def test_gives_alone(self):
        whole = WORD
        for _ in range(80):
            whole = ("behind", whole, WORD)
        for _ in range(80):
            whole = ("givebehind", A, whole)
        kind = A
        for _ in range(80):
            kind = ("behind", kind, A)
        self.check([kind], whole, whole)
        self.assertEqual(depth(kind), 81)

    def check(self, row, whole, long):
        """All functions take a reading, which has the told long form."""
        kind = kind_of(row, whole)
        self.assertEqual(width(whole), len(row))
        self.assertEqual(word(row), word([kind]))
        self.assertEqual(long_form(row, whole), long)
        self.assertTrue(same_readings(row, whole, long))
        self.assertEqual(is_long(row, whole), whole == long)
        self.assertEqual(is_short(whole), steps(whole) == [])
        self.assertEqual(kind_of(row, shortened(whole)), kind)
        self.assertEqual(kind_of(turned_row(row), turned_reading(whole)), turned(kind))
        for place in steps(whole)[:3] + steps(whole)[-3:]:
            self.assertEqual(long_form(row, after_step(whole, place)), long)
        for at in (0, len(row) - 1):
            self.assertEqual(put_in(whole, at, WORD), whole)
        self.assertFalse(same_readings([S], WORD, ("givebehind", ("ahead", S, C), ("ahead", WORD, WORD))))


if __name__ == "__main__":
    unittest.main()
