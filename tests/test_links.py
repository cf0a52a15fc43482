"""links.py: what the functions answer and refuse."""

import random
import unittest
from itertools import combinations

from samples import A, AB, AS, B, BC, BOTH, C, LIFT, ODD, S, WITH, WORD, Checks, ahead, behind, some_readings
from slowways import any_row, any_row_of_one_word, slow_line, slow_links, slow_readings
from waitwords.errors import InvalidKind, InvalidLinks, InvalidReading, InvalidRow, NotSingle
from waitwords.finding import readings_of
from waitwords.kinds import lifted
from waitwords.links import is_crossed, line, links, owners, reading_by
from waitwords.readings import kind_of, long_form, put_in

AA, TURN = behind(A, A), ahead(A, A)
FRONT = ("ahead", WORD, WORD)
BAD = ("plain", "B")
NARROW = ("givebehind", A, WORD)


def pairings(places):
    """All lists of links of these places, each once."""
    if not places:
        return [[]]
    return [[(places[0], other)] + rest for at, other in enumerate(places[1:], 1)
            for rest in pairings(places[1:at] + places[at + 1:])]


class Lines(Checks, unittest.TestCase):

    def test_line(self):
        self.assert_answer("aa", line, row=[A], kind=A)
        self.assert_answer("ab", line, row=[A], kind=B)
        self.assert_answer("abba", line, row=[AB, B], kind=A)
        self.assert_answer("aass", line, row=[A, AS], kind=S)
        self.assert_answer("aabb", line, row=[A], kind=lifted(A, B, True))
        self.assert_answer("abba", line, row=[A], kind=lifted(A, B, False))
        self.assert_answer("abba", line, row=[AB], kind=AB)
        self.assert_answer("assa", line, row=[AS], kind=AS)
        self.assert_answer("abbcca", line, row=[AB, BC], kind=behind(A, C))
        self.assert_answer("acba", line, row=[behind(A, BC)], kind=A)

    def test_owners(self):
        self.assert_answer([0, 1], owners, row=[A], kind=B)
        self.assert_answer([0, 0, 1, 2], owners, row=[AB, B], kind=A)
        self.assert_answer([0, 1, 1, 2, 2, 2], owners, row=[A, BC], kind=lifted(A, B, True))

    def test_lines_by_the_words_of_the_document(self):
        chance = random.Random(1)
        for _ in range(1000):
            row, kind = any_row(chance, chance.randrange(2, 15), 6, "abcz")
            told = "".join(slow_line(row, kind))
            self.assertEqual(line(row, kind), told)
            self.assertEqual([place for place, one in enumerate(row + [kind]) for _ in slow_line([], one)],
                             owners(row, kind))


class Links(Checks, unittest.TestCase):

    def test_links(self):
        self.assert_answer([(0, 1)], links, row=[A], kind=A, reading=WORD)
        self.assert_answer([(0, 3), (1, 2)], links, row=[AB, B], kind=A, reading=BOTH)
        self.assert_answer([(0, 3), (1, 2)], links, row=[AB], kind=AB, reading=WORD)
        self.assert_answer([(0, 3), (1, 2)], links, row=[AB], kind=AB, reading=("givebehind", B, BOTH))
        self.assert_answer([(0, 1), (2, 3)], links, row=[A], kind=lifted(A, B, True), reading=LIFT)
        self.assert_answer([(0, 3), (1, 2)], links, row=[A], kind=lifted(A, B, False),
                           reading=("giveahead", behind(B, A), BOTH))
        row = [AA, A, TURN]
        self.assert_answer([(0, 5), (1, 4), (2, 3)], links, row=row, kind=A, reading=("behind", WORD, FRONT))
        self.assert_answer([(0, 3), (1, 2), (4, 5)], links, row=row, kind=A, reading=("ahead", BOTH, WORD))
        self.assert_answer([(0, 3), (1, 2)], links, row=[AB, B], kind=A,
                           reading=("behind", ("givebehind", B, BOTH), WORD))

    def test_reading_by(self):
        self.assert_answer(WORD, reading_by, row=[A], kind=A, told=[(0, 1)])
        self.assert_answer(BOTH, reading_by, row=[AB, B], kind=A, told=[(0, 3), (1, 2)])
        self.assert_answer(("givebehind", B, BOTH), reading_by, row=[AB], kind=AB, told=[(0, 3), (1, 2)])
        self.assert_answer(LIFT, reading_by, row=[A], kind=lifted(A, B, True), told=[(0, 1), (2, 3)])
        row = [AA, A, TURN]
        self.assert_answer(("behind", WORD, FRONT), reading_by, row=row, kind=A, told=[(0, 5), (1, 4), (2, 3)])
        self.assert_answer(("ahead", BOTH, WORD), reading_by, row=row, kind=A, told=[(0, 3), (1, 2), (4, 5)])

    def test_links_of_no_reading(self):
        row = [AA, A, TURN]
        self.assert_answer(None, reading_by, row=[AB, B], kind=A, told=[(0, 1), (2, 3)])
        self.assert_answer(None, reading_by, row=[A], kind=B, told=[(0, 1)])
        self.assert_answer(None, reading_by, row=[A, A], kind=AA, told=[(0, 1), (2, 3)])
        for told in ([(0, 1), (2, 3), (4, 5)], [(0, 1), (2, 5), (3, 4)], [(0, 5), (1, 2), (3, 4)],
                     [(0, 3), (1, 4), (2, 5)], [(0, 2), (1, 3), (4, 5)]):
            self.assert_answer(None, reading_by, row=row, kind=A, told=told)
        # Links that do not cross, of a reading that would take nothing for a B.
        self.assert_answer(None, reading_by, row=[behind(A, AA)], kind=A, told=[(0, 3), (1, 2)])
        self.assert_answer(None, reading_by, row=[AA], kind=behind(B, B), told=[(0, 1), (2, 3)])

    def test_all_links_of_small_rows(self):
        chance = random.Random(3)
        found = without = 0
        for _ in range(400):
            row, kind = any_row(chance, chance.choice([2, 4, 6, 6]), 4, "a")
            told = {repr(slow_links(row, kind, long)): long for long in slow_readings(tuple(row), kind)}
            for pairs in pairings(list(range(len(line(row, kind))))):
                self.assertEqual(reading_by(row, kind, pairs), told.pop(repr(pairs), None))
            self.assertEqual(told, {})
        for _ in range(1500):
            row, kind = any_row_of_one_word(chance, chance.choice([8, 10, 12]), 6, "a")
            readings = slow_readings(tuple(row), kind)
            seen = []
            for long in readings:
                pairs = links(row, kind, long)
                self.assertEqual(pairs, slow_links(row, kind, long))
                self.assertEqual(reading_by(row, kind, pairs), long)
                self.assertFalse(is_crossed(pairs))
                self.assertNotIn(pairs, seen)
                seen.append(pairs)
            found += len(readings)
            without += not readings
        self.assertGreater(found, 100)
        self.assertGreater(without, 100)

    def test_links_of_readings_that_are_not_long(self):
        unlike = 0
        for row, reading in some_readings(300):
            kind = kind_of(row, reading)
            long = long_form(row, reading)
            unlike += long != reading
            pairs = links(row, kind, reading)
            self.assertEqual(pairs, slow_links(row, kind, long))
            self.assertEqual(reading_by(row, kind, pairs), long)
            letters = line(row, kind)
            self.assertTrue(all(letters[low] == letters[high] for low, high in pairs))
        self.assertGreater(unlike, 100)

    def test_unlike_long_readings_have_unlike_links(self):
        for row, kind in (([AA, AA, A, TURN, TURN], A), ([AA, AA, AA, A, TURN, TURN], A)):
            told = [links(row, kind, reading) for reading in readings_of(row, kind)]
            self.assertEqual(len({repr(pairs) for pairs in told}), len(told))

    def test_deep_readings(self):
        chain, row = WORD, [A]
        lift, whole = ("givebehind", B, BOTH), ("givebehind", B, BOTH)
        for _ in range(190):
            chain, row = put_in(BOTH, 1, chain), [AA] + row
        for _ in range(95):
            whole = put_in(lift, 0, whole)
        for kinds, kind, reading, long in ((row, A, chain, chain), ([AB], AB, whole, lift)):
            pairs = links(kinds, kind, reading)
            self.assertEqual(len(pairs) * 2, len(line(kinds, kind)))
            self.assertEqual(reading_by(kinds, kind, pairs), long)
            self.assertFalse(is_crossed(pairs))
        self.assertEqual(links([AB], AB, whole), [(0, 3), (1, 2)])
        self.assertEqual(owners(row, A)[-2:], [190, 191])

    def test_the_lists_are_new(self):
        told = [(0, 3), (1, 2)]
        found = links([AB, B], A, BOTH)
        found.append((4, 5))
        self.assertEqual(links([AB, B], A, BOTH), told)
        self.assertEqual(reading_by([AB, B], A, told), BOTH)
        self.assertEqual(told, [(0, 3), (1, 2)])


class Crossed(Checks, unittest.TestCase):

    def test_is_crossed(self):
        self.assert_answer(False, is_crossed, told=[])
        self.assert_answer(False, is_crossed, told=[(0, 1)])
        self.assert_answer(True, is_crossed, told=[(0, 2), (1, 3)])
        self.assert_answer(False, is_crossed, told=[(0, 3), (1, 2)])
        self.assert_answer(False, is_crossed, told=[(0, 1), (2, 3)])
        self.assert_answer(False, is_crossed, told=[(0, 1), (2, 9), (4, 7), (5, 6)])
        self.assert_answer(True, is_crossed, told=[(0, 1), (2, 9), (4, 7), (5, 8)])
        self.assert_answer(True, is_crossed, told=[(3, 100), (5, 6), (90, 101)])
        self.assert_answer(False, is_crossed, told=[(7, 1000000)])

    def test_all_links_of_eight_places(self):
        for pairs in pairings(list(range(8))):
            told = any(i < k < j < l for (i, j), (k, l) in combinations(pairs, 2))
            self.assertEqual(is_crossed(pairs), told)


class Refused(Checks, unittest.TestCase):

    def test_rows(self):
        for function in (line, owners, lambda row, kind: links(row, kind, NARROW), lambda row, kind: reading_by(row, kind, [])):
            self.assert_refused(InvalidKind, BAD, function, [A, BAD], ODD)
            self.assert_refused(InvalidKind, ODD, function, [WITH], behind(A, ODD))
            self.assert_refused(InvalidKind, ODD, function, [], ODD)
            self.assert_refused(InvalidRow, [], function, [], WITH)
            self.assert_refused(NotSingle, behind(A, WITH), function, [A, behind(A, WITH)], WITH)
            self.assert_refused(NotSingle, WITH, function, row=[A], kind=WITH)

    def test_readings(self):
        give, with_give = ("givebehind", BAD, BOTH), ("givebehind", WITH, BOTH)
        self.assert_refused(InvalidKind, ODD, links, [A], ODD, give)
        self.assert_refused(InvalidKind, BAD, links, [], WITH, ("behind", ODD, give))
        self.assert_refused(InvalidRow, [], links, [], A, with_give)
        self.assert_refused(NotSingle, behind(A, WITH), links, [A], behind(A, WITH), with_give)
        self.assert_refused(NotSingle, WITH, links, row=[A], kind=A, reading=("behind", with_give, NARROW))
        self.assert_refused(InvalidReading, NARROW, links, [A, A], A, ("behind", NARROW, ODD))
        self.assert_refused(InvalidReading, ODD, links, [A, A], A, ("behind", ODD, NARROW))
        self.assert_refused(InvalidReading, BOTH, links, [A], A, BOTH)
        self.assert_refused(InvalidReading, BOTH, links, [A, A], A, BOTH)
        self.assert_refused(InvalidReading, FRONT, links, [AB, B, A], A, ("behind", WORD, FRONT))

    def test_a_reading_of_another_kind(self):
        for row, kind, reading in (([A], B, WORD), ([AB, B], B, BOTH), ([A], A, LIFT), ([A], lifted(A, B, False), LIFT),
                                   ([AB], ahead(B, A), WORD)):
            self.assert_refused(InvalidReading, reading, links, row, kind, reading)
            self.assert_refused(InvalidReading, reading, links, row=row, kind=kind, reading=reading)

    def test_links_that_are_none_of_the_line(self):
        for told in ([], [(0, 1)], [(0, 3)], [(1, 2), (0, 3)], [(0, 3), (2, 1)], [(3, 0), (1, 2)], [(0, 3), (1, 1)],
                     [(0, 3), (0, 3)], [(0, 1), (1, 2)], [(0, 1), (1, 2), (2, 3)], [(0, 4), (1, 2)], [(-1, 0), (1, 2)],
                     [(0, 1), (2, 3), (4, 5)], [(-1, 3), (1, 2)], [(0, 2), (1, 2)], [(0, 1), (2, 3), (2, 3)],
                     [(0, 3), (1, 3)], [(-1, 4), (0, 3), (1, 2)]):
            self.assert_refused(InvalidLinks, told, reading_by, [AB, B], A, told)
            self.assert_refused(InvalidLinks, told, reading_by, row=[AB, B], kind=A, told=told)

    def test_a_line_of_an_odd_number_of_letters(self):
        for told in ([], [(0, 1)], [(0, 2)], [(1, 2)], [(0, 1), (1, 2)], [(0, 1), (2, 3)], [(0, 1), (2, 2)]):
            self.assert_refused(InvalidLinks, told, reading_by, [A, A], A, told)

    def test_links_that_cannot_be_asked_whether_they_cross(self):
        for told in ([(1, 0)], [(0, 0)], [(-1, 0)], [(-2, -1)], [(0, 1), (1, 2)], [(0, 1), (0, 2)], [(0, 2), (1, 2)],
                     [(2, 3), (0, 1)], [(0, 3), (2, 1)], [(0, 1), (0, 1)], [(0, 2), (1, 3), (-1, 5)], [(4, 5), (1, 9)]):
            self.assert_refused(InvalidLinks, told, is_crossed, told)
            self.assert_refused(InvalidLinks, told, is_crossed, told=told)

    def test_behind_a_refused_call_all_is_as_ahead(self):
        calls = [
            (line, ([AB, B], A), ([], A)), (links, ([AB, B], A, BOTH), ([AB, B], B, BOTH)),
            (reading_by, ([AB, B], A, [(0, 3), (1, 2)]), ([AB, B], A, [(0, 3)])), (is_crossed, ([(0, 1)],), ([(1, 0)],)),
            (owners, ([AB, B], A), ([WITH], A)),
        ]
        self.assert_as_ahead(calls)


if __name__ == "__main__":
    unittest.main()
