"""cancelling.py: what the functions answer and refuse."""

import random
import unittest

from samples import A, AB, AS, B, BC, BOTH, C, ODD, S, WITH, WORD, Checks, ahead, behind
from slowways import any_row, slow_comes
from waitwords.cancelling import chart, comes_plainly, plain_kinds, plain_readings
from waitwords.errors import InvalidKind, InvalidRow
from waitwords.finding import comes_to
from waitwords.readings import kind_of
from waitwords.texts import show_kind, show_reading

AA, TURN = behind(A, A), ahead(A, A)
FRONT = ("ahead", WORD, WORD)
BAD = ("plain", "B")


def slow_plain(row):
    """All tuples (kind, reading) of a row by putting together alone, each reading once."""
    found = [(row[0], WORD)] if len(row) == 1 else []
    for middle in range(1, len(row)):
        for one, left in slow_plain(row[:middle]):
            for other, right in slow_plain(row[middle:]):
                if one[0] == "behind" and one[2] == other:
                    found.append((one[1], ("behind", left, right)))
                if other[0] == "ahead" and other[1] == one:
                    found.append((other[2], ("ahead", left, right)))
    return found


class Plainly(Checks, unittest.TestCase):

    def test_plain_kinds(self):
        self.assert_answer([A], plain_kinds, row=[A])
        self.assert_answer([lift(A)], plain_kinds, row=[lift(A)])
        self.assert_answer([A], plain_kinds, row=[AB, B])
        self.assert_answer([], plain_kinds, row=[B, AB])
        self.assert_answer([A], plain_kinds, row=[AA, A, TURN])
        self.assert_answer([], plain_kinds, row=[AB, BC])
        self.assert_answer([A], plain_kinds, row=[AB, BC, C])
        self.assert_answer([C], plain_kinds, row=[behind(C, behind(B, A)), behind(B, A)])
        self.assert_answer([], plain_kinds, row=[behind(S, A), A, ahead(A, C)])
        self.assert_answer([S], plain_kinds, row=[behind(S, B), A, ahead(A, B)])
        self.assert_answer([S], plain_kinds, row=[A, behind(ahead(A, S), ahead(A, C)), ahead(A, C)])

    def test_unlike_kinds_of_one_row(self):
        last = ahead(A, ahead(AA, B))
        row = [AA, A, last]
        self.assert_answer([ahead(AA, B), B], plain_kinds, row=row)
        self.assert_answer([("ahead", WORD, FRONT)], plain_readings, row=row, kind=B)
        self.assert_answer([("ahead", BOTH, WORD)], plain_readings, row=row, kind=ahead(AA, B))
        self.assert_answer(True, comes_plainly, row=row, kind=B)
        self.assert_answer([(0, 1, [AA]), (0, 2, [A]), (0, 3, [ahead(AA, B), B]), (1, 2, [A]), (1, 3, [ahead(AA, B)]),
                            (2, 3, [last])], chart, row=row)

    def test_comes_plainly(self):
        self.assert_answer(True, comes_plainly, row=[A], kind=A)
        self.assert_answer(False, comes_plainly, row=[A], kind=B)
        self.assert_answer(True, comes_plainly, row=[AB, B], kind=A)
        self.assert_answer(False, comes_plainly, row=[AB, BC], kind=behind(A, C))
        self.assert_answer(False, comes_plainly, row=[A], kind=lift(A))
        self.assert_answer(True, comes_plainly, row=[AA, A, TURN], kind=A)

    def test_plain_readings(self):
        self.assert_answer([WORD], plain_readings, row=[A], kind=A)
        self.assert_answer([WORD], plain_readings, row=[AB], kind=AB)
        self.assert_answer([], plain_readings, row=[A], kind=B)
        self.assert_answer([BOTH], plain_readings, row=[AB, B], kind=A)
        self.assert_answer([("ahead", BOTH, WORD), ("behind", WORD, FRONT)], plain_readings, row=[AA, A, TURN], kind=A)
        self.assert_answer([], plain_readings, row=[AA, A, TURN], kind=AA)
        self.assertEqual(len(plain_readings([AA, AA, AA, A, TURN, TURN], A)), 10)

    def test_chart(self):
        self.assert_answer([(0, 1, [A])], chart, row=[A])
        self.assert_answer([(0, 1, [AB]), (0, 2, [A]), (1, 2, [B])], chart, row=[AB, B])
        self.assert_answer([(0, 1, [B]), (0, 2, []), (1, 2, [AB])], chart, row=[B, AB])
        self.assert_answer([(0, 1, [AA]), (0, 2, [A]), (0, 3, [A]), (1, 2, [A]), (1, 3, [A]), (2, 3, [TURN])], chart,
                           row=[AA, A, TURN])
        self.assert_answer([(0, 1, [WITH]), (0, 2, [S]), (1, 2, [ahead(WITH, S)])], chart, row=[WITH, ahead(WITH, S)])

    def test_with_is_not_taken_apart(self):
        self.assert_answer([WITH], plain_kinds, row=[WITH])
        self.assert_answer([], plain_kinds, row=[A, B])
        self.assert_answer(False, comes_plainly, row=[A, B], kind=WITH)
        self.assert_answer([S], plain_kinds, row=[WITH, ahead(WITH, S)])
        self.assert_answer([], plain_kinds, row=[A, B, ahead(WITH, S)])
        self.assert_answer([WITH], plain_kinds, row=[behind(WITH, C), C])
        self.assert_answer([FRONT], plain_readings, row=[WITH, ahead(WITH, S)], kind=S)
        self.assert_answer([], plain_kinds, row=[behind(A, B), WITH])
        self.assert_answer([], plain_kinds, row=[("with", AB, C), B])

    def test_against_all_readings(self):
        chance = random.Random(14)
        many = comes = 0
        for _ in range(6000):
            texts = chance.choice([("behind", "ahead"), ("behind", "ahead"), ("behind", "ahead", "with")])
            row, kind = any_row(chance, chance.randrange(3, 15), 6, chance.choice(["a", "ab"]), texts)
            told = slow_plain(row)
            self.assertEqual(plain_kinds(row), sorted({one for one, _ in told}, key=show_kind))
            self.assertEqual(chart(row), [
                (start, end, sorted({one for one, _ in slow_plain(row[start:end])}, key=show_kind))
                for start in range(len(row)) for end in range(start + 1, len(row) + 1)])
            for one in plain_kinds(row) + [kind]:
                readings = sorted([reading for shown, reading in told if shown == one], key=show_reading)
                self.assertEqual(plain_readings(row, one), readings)
                self.assertEqual(comes_plainly(row, one), bool(readings))
                if readings:
                    # What a row comes to so it comes to.
                    self.assertTrue(comes_to(row, one))
                    comes += 1
                many += len(readings) > 1
            if len(row) < 4 and "with" not in texts:
                for one, reading in told:
                    self.assertEqual(kind_of(row, reading), one)
                    self.assertTrue(slow_comes(tuple(row), one))
        self.assertGreater(comes, 500)
        self.assertGreater(many, 3)

    def test_lists_are_new(self):
        row = [AB, B]
        found = chart(row)
        found[1][2].append(S)
        found.append(0)
        self.assertEqual(chart(row), [(0, 1, [AB]), (0, 2, [A]), (1, 2, [B])])
        plain_kinds(row).append(S)
        plain_readings(row, A).append(S)
        self.assertEqual([plain_kinds(row), plain_readings(row, A)], [[A], [BOTH]])


def lift(kind):
    return behind(B, ahead(kind, B))


class Refused(Checks, unittest.TestCase):

    def test_invalid_kind(self):
        for function in (plain_kinds, chart):
            self.assert_refused(InvalidKind, BAD, function, [A, behind(B, BAD), ODD])
            self.assert_refused(InvalidKind, ODD, function, row=[("with", A, ODD)])
        for function in (comes_plainly, plain_readings):
            self.assert_refused(InvalidKind, BAD, function, [A, BAD], ODD)
            self.assert_refused(InvalidKind, ODD, function, [A], ODD)
            self.assert_refused(InvalidKind, ODD, function, row=[], kind=ODD)

    def test_invalid_row(self):
        for function in (plain_kinds, chart):
            self.assert_refused(InvalidRow, [], function, [])
            self.assert_refused(InvalidRow, [], function, row=[])
        for function in (comes_plainly, plain_readings):
            self.assert_refused(InvalidRow, [], function, [], A)
            self.assert_refused(InvalidRow, [], function, row=[], kind=WITH)

    def test_behind_a_refused_call_all_is_as_ahead(self):
        calls = [(plain_kinds, ([AB, B],), ([],)), (comes_plainly, ([AB, B], A), ([AB, B], ODD)),
                 (plain_readings, ([AB, B], A), ([], A)), (chart, ([AB, B],), ([ODD],))]
        self.assert_as_ahead(calls)


if __name__ == "__main__":
    unittest.main()
