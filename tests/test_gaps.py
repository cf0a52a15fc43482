"""gaps.py: what the functions answer and refuse."""

import itertools
import random
import unittest

from bookways import slow_list_comes, some_books
from samples import A, AB, AS, B, BC, C, ODD, S, WITH, Checks, ahead, all_kinds, behind
from slowways import any_row_of_one_word, slow_comes
from waitwords.books import Book
from waitwords.errors import InvalidKind, InvalidLetter, InvalidNumber, InvalidPlace, InvalidRow, UnknownWord
from waitwords.finding import comes_to, leads_to
from waitwords.gaps import completed, fillers, gaps, need_ahead, need_behind, need_between, words_for
from waitwords.kinds import lifted, size
from waitwords.texts import show_kind

BAD, WORSE = ("plain", "B"), ("plain", "")
AA, TURN = behind(A, A), ahead(A, A)
BOOK = Book([("he", [A]), ("sleeps", [AS]), ("soundly", [ahead(AS, AS)])])
WRONG_SIGNS = ["", "A", "aa", "ba", "abcd", "acb", "a1", " a"]
WRONG_PLACES = [-1, -3, 9]


def together(*kinds):
    found = kinds[0]
    for kind in kinds[1:]:
        found = ("with", found, kind)
    return found


def single_kinds(signs, most):
    kinds = [kind for kind in all_kinds(signs, most, ("behind", "ahead")) if size(kind) <= most]
    return sorted(kinds, key=lambda kind: (size(kind), show_kind(kind)))


class Needs(Checks, unittest.TestCase):

    def test_need_behind(self):
        self.assert_answer(ahead(AB, A), need_behind, row=[AB], kind=A)
        self.assert_answer(ahead(together(A, B), C), need_behind, row=[A, B], kind=C)
        self.assert_answer(ahead(("with", ("with", A, B), C), S), need_behind, row=[A, B, C], kind=S)
        self.assert_answer(ahead(together(A, B, C, S, AB, WITH), WITH), need_behind, row=[A, B, C, S, AB, WITH], kind=WITH)

    def test_need_ahead(self):
        self.assert_answer(behind(A, AB), need_ahead, row=[AB], kind=A)
        self.assert_answer(behind(C, together(A, B)), need_ahead, row=[A, B], kind=C)
        self.assert_answer(behind(S, ("with", ("with", A, B), C)), need_ahead, row=[A, B, C], kind=S)
        self.assert_answer(behind(WITH, together(WITH, A, A, B)), need_ahead, row=[WITH, A, A, B], kind=WITH)

    def test_need_between(self):
        self.assert_answer(behind(ahead(A, S), B), need_between, before=[A], after=[B], kind=S)
        self.assert_answer(behind(ahead(together(A, B), S), C), need_between, before=[A, B], after=[C], kind=S)
        self.assert_answer(behind(ahead(A, S), ("with", ("with", B, C), WITH)), need_between,
                           before=[A], after=[B, C, WITH], kind=S)

    def test_what_leads_there_and_nothing_else(self):
        chance = random.Random(81)
        kinds = [kind for kind in all_kinds("ab", 3) if size(kind) <= 3]
        counts = {True: 0, False: 0}
        tried = 0
        while tried < 1500:
            texts = [("behind", "ahead"), ("behind", "ahead", "with")][tried % 2]
            row, kind = any_row_of_one_word(chance, chance.choice([4, 6, 8]), 4, "ab", texts)
            if len(row) < 2:
                continue
            tried += 1
            at = chance.randrange(len(row))
            before, after = row[:at], row[at + 1:]
            # The kind of the row, which often does, and any other one.
            for filler in (row[at], chance.choice(kinds)):
                if not before:
                    need = need_ahead(after, kind)
                elif not after:
                    need = need_behind(before, kind)
                else:
                    need = need_between(before, after, kind)
                told = slow_comes(tuple(before + [filler] + after), kind)
                self.assertIs(slow_comes((filler,), need), told)
                self.assertIs(leads_to(filler, need), told)
                self.assertIs(comes_to(before + [filler] + after, kind), told)
                counts[told] += 1
        self.assertGreater(min(counts.values()), 300)

    def test_what_is_needed_does(self):
        for row, kind in (([AB], A), ([A, B], C), ([A, WITH, C], S)):
            self.assertTrue(comes_to(row + [need_behind(row, kind)], kind))
            self.assertTrue(comes_to([need_ahead(row, kind)] + row, kind))
            self.assertTrue(comes_to(row + [need_between(row, [B, A], kind)] + [B, A], kind))


class Fillers(Checks, unittest.TestCase):

    def test_fillers(self):
        self.assert_answer([B], fillers, row=[AB], at=1, kind=A, signs="ab", most=1)
        self.assert_answer([], fillers, row=[AB], at=0, kind=A, signs="ab", most=1)
        self.assert_answer([], fillers, row=[A], at=0, kind=A, signs="ab", most=1)
        self.assert_answer([AA], fillers, row=[A], at=0, kind=A, signs="a", most=2)
        self.assert_answer([TURN], fillers, row=[A], at=1, kind=A, signs="ab", most=2)
        self.assert_answer([ahead(A, B)], fillers, row=[A], at=1, kind=B, signs="ab", most=2)
        self.assert_answer([A], fillers, row=[AS], at=0, kind=S, signs="ab", most=3)
        self.assert_answer([A, lifted(A, B, True)], fillers, row=[ahead(lifted(A, B, True), S)], at=0,
                           kind=S, signs="ab", most=3)
        self.assert_answer([B], fillers, row=[ahead(B, A)], at=0, kind=A, signs="bz", most=2)
        self.assert_answer([BC], fillers, row=[AB, C], at=1, kind=A, signs="bc", most=3)
        self.assert_answer([ahead(C, B)], fillers, row=[AB, C], at=2, kind=A, signs="abc", most=3)
        self.assert_answer([], fillers, row=[AB, C], at=0, kind=A, signs="abc", most=3)

    def test_beside_with(self):
        self.assert_answer([B], fillers, row=[A], at=1, kind=WITH, signs="ab", most=1)
        self.assert_answer([A], fillers, row=[B], at=0, kind=WITH, signs="ab", most=1)
        self.assert_answer([S], fillers, row=[A, B], at=2, kind=together(WITH, S), signs="abs", most=1)
        self.assert_answer([B], fillers, row=[A, S], at=1, kind=together(WITH, S), signs="abs", most=1)
        self.assert_answer([behind(A, C)], fillers, row=[together(C, B)], at=0, kind=together(A, B), signs="abc", most=2)
        # None of the fillers has a "with", whatever stands beside them.
        self.assert_answer([], fillers, row=[behind(A, WITH)], at=1, kind=A, signs="ab", most=3)

    def test_against_all_kinds(self):
        chance = random.Random(82)
        told_ones = 0
        for number in range(150):
            texts = [("behind", "ahead"), ("behind", "ahead", "with")][number % 2]
            row, kind = any_row_of_one_word(chance, chance.choice([4, 6]), 3, "ab"[:1 + number % 2], texts)
            at = chance.randrange(len(row))
            row = row[:at] + row[at + 1:] if len(row) > 1 else row
            if max(map(size, row)) > 3:
                continue
            for place in range(len(row) + 1):
                signs, most = chance.choice(["a", "b", "ab", "abc"]), chance.choice([1, 2, 3])
                told = [one for one in single_kinds(signs, most)
                        if slow_comes(tuple(row[:place] + [one] + row[place:]), kind)]
                self.assertEqual(fillers(row, place, kind, signs, most), told)
                told_ones += len(told)
        self.assertGreater(told_ones, 40)


class Words(Checks, unittest.TestCase):

    def test_words_for(self):
        self.assert_answer(["sleeps"], words_for, book=BOOK, words=["he"], at=1, kind=S)
        self.assert_answer([], words_for, book=BOOK, words=["he"], at=0, kind=S)
        self.assert_answer(["he"], words_for, book=BOOK, words=["sleeps"], at=0, kind=S)
        self.assert_answer(["soundly"], words_for, book=BOOK, words=["he", "sleeps"], at=2, kind=S)
        book = Book([("z", [B, AA]), ("do", [TURN, A]), ("an", [behind(A, A)])])
        self.assert_answer(["an", "do", "z"], words_for, book=book, words=["do"], at=0, kind=A)
        self.assert_answer(["do"], words_for, book=book, words=["do"], at=1, kind=A)
        self.assert_answer(["an", "do", "z"], words_for, book=book, words=["an", "do"], at=1, kind=A)

    def test_completed(self):
        self.assert_answer(["sleeps"], completed, book=BOOK, words=["he"], kind=S, most=2)
        self.assert_answer([], completed, book=BOOK, words=["he", "sleeps"], kind=S, most=1)
        self.assert_answer([], completed, book=BOOK, words=["he"], kind=A, most=0)
        self.assert_answer(None, completed, book=BOOK, words=["he"], kind=S, most=0)
        self.assert_answer(None, completed, book=BOOK, words=["sleeps"], kind=S, most=2)
        book = Book([("z", [B, C]), ("do", [behind(behind(A, C), B)]), ("an", [behind(C, B), C])])
        self.assert_answer(["an", "an"], completed, book=Book(book.entries[:2] + [("an", [B, C])]), words=["do"], kind=A, most=2)
        self.assert_answer(["z", "an"], completed, book=book, words=["do"], kind=A, most=2)
        self.assert_answer(None, completed, book=book, words=["do"], kind=A, most=1)

    def test_gaps(self):
        self.assert_answer([(2, ["soundly"])], gaps, book=BOOK, words=["he", "sleeps"], kind=S)
        self.assert_answer([(1, ["sleeps"])], gaps, book=BOOK, words=["he"], kind=S)
        self.assert_answer([], gaps, book=BOOK, words=["soundly"], kind=S)
        book = Book([("z", [B, AA]), ("do", [TURN, A]), ("an", [behind(A, A)])])
        self.assert_answer([(0, ["an", "do", "z"]), (1, ["do"])], gaps, book=book, words=["do"], kind=A)
        self.assert_answer([(0, ["an", "z"]), (1, ["an", "do", "z"]), (2, ["do"])], gaps, book=book, words=["an", "do"], kind=A)

    def test_against_all_words(self):
        found = 0
        chance = random.Random(83)
        for book in some_books(80) + some_books(40, letters="a"):
            kind = chance.choice([A, A, B, AB, AA])
            names = book.words()
            for words in [[word] for word in names] + [[chance.choice(names), chance.choice(names)]]:
                told = []
                for at in range(len(words) + 1):
                    inner = [word for word in names if slow_list_comes(book, words[:at] + [word] + words[at:], kind)]
                    self.assertEqual(words_for(book, words, at, kind), inner)
                    told += [(at, inner)] if inner else []
                self.assertEqual(gaps(book, words, kind), told)
                found += len(told)
                for most in range(4 - len(words)):
                    lists = [list(one) for many in range(most + 1) for one in itertools.product(names, repeat=many)]
                    right = [one for one in lists if slow_list_comes(book, words + one, kind)]
                    self.assertEqual(completed(book, words, kind, most), right[0] if right else None)
        self.assertGreater(found, 100)


class Refused(Checks, unittest.TestCase):

    def test_unknown_word(self):
        self.assert_refused(UnknownWord, "she", words_for, BOOK, ["he", "she", "it"], 9, BAD)
        self.assert_refused(UnknownWord, "", words_for, book=BOOK, words=[""], at=0, kind=A)
        self.assert_refused(UnknownWord, "she", completed, BOOK, ["she"], BAD, 9)
        self.assert_refused(UnknownWord, "she", completed, book=Book([]), words=["she"], kind=A, most=2)
        self.assert_refused(UnknownWord, "she", gaps, BOOK, ["she"], BAD)
        self.assert_refused(UnknownWord, "He", gaps, book=BOOK, words=["he", "He"], kind=A)

    def test_invalid_kind(self):
        for function in (need_behind, need_ahead):
            self.assert_refused(InvalidKind, BAD, function, [A, behind(BAD, A), ODD], WORSE)
            self.assert_refused(InvalidKind, WORSE, function, [], behind(WORSE, BAD))
            self.assert_refused(InvalidKind, ODD, function, row=[A], kind=ODD)
        self.assert_refused(InvalidKind, BAD, need_between, [A, BAD], [WORSE], ODD)
        self.assert_refused(InvalidKind, WORSE, need_between, [], [A, WORSE], ODD)
        self.assert_refused(InvalidKind, ODD, need_between, before=[], after=[], kind=ODD)
        self.assert_refused(InvalidKind, BAD, fillers, [A, BAD], 9, WORSE, "", 0)
        self.assert_refused(InvalidKind, ODD, fillers, row=[], at=9, kind=ODD, signs="", most=0)
        self.assert_refused(InvalidKind, BAD, words_for, BOOK, [], -1, BAD)
        self.assert_refused(InvalidKind, BAD, completed, BOOK, [], behind(A, BAD), 7)
        self.assert_refused(InvalidKind, ODD, gaps, book=BOOK, words=[], kind=ODD)

    def test_invalid_row(self):
        for function in (need_behind, need_ahead):
            self.assert_refused(InvalidRow, [], function, [], A)
            self.assert_refused(InvalidRow, [], function, row=[], kind=A)
        for before, after in (([], [A]), ([A], []), ([], [])):
            self.assert_refused(InvalidRow, [], need_between, before, after, A)
            self.assert_refused(InvalidRow, [], need_between, before=before, after=after, kind=A)
        self.assert_refused(InvalidRow, [], fillers, [], 9, A, "", 0)
        self.assert_refused(InvalidRow, [], words_for, BOOK, [], 9, A)
        self.assert_refused(InvalidRow, [], completed, book=BOOK, words=[], kind=A, most=7)
        self.assert_refused(InvalidRow, [], gaps, Book([]), [], A)

    def test_invalid_place(self):
        for at in WRONG_PLACES + [3]:
            self.assert_refused(InvalidPlace, at, fillers, [A, B], at, A, "", 0)
            self.assert_refused(InvalidPlace, at, fillers, row=[A, B], at=at, kind=A, signs="a", most=1)
            self.assert_refused(InvalidPlace, at, words_for, BOOK, ["he", "he"], at, A)
            self.assert_refused(InvalidPlace, at, words_for, book=BOOK, words=["he", "he"], at=at, kind=A)
        self.assert_refused(InvalidPlace, 2, fillers, [A], 2, A, "a", 1)

    def test_invalid_letter(self):
        for signs in WRONG_SIGNS:
            self.assert_refused(InvalidLetter, signs, fillers, [A], 1, A, signs, 0)
            self.assert_refused(InvalidLetter, signs, fillers, row=[A], at=0, kind=A, signs=signs, most=1)

    def test_invalid_number(self):
        for most in (0, 4, -1):
            self.assert_refused(InvalidNumber, most, fillers, [A], 0, A, "a", most)
            self.assert_refused(InvalidNumber, most, fillers, row=[A], at=0, kind=A, signs="az", most=most)
        for most in (-1, 3, 10):
            self.assert_refused(InvalidNumber, most, completed, BOOK, ["he"], A, most)
            self.assert_refused(InvalidNumber, most, completed, book=BOOK, words=["he"], kind=A, most=most)

    def test_behind_a_refused_call_all_is_as_ahead(self):
        self.assert_as_ahead([
            (need_behind, ([A, B], C), ([], C)), (need_ahead, ([A, B], C), ([], C)),
            (need_between, ([A], [B], C), ([A], [], C)), (fillers, ([AB], 1, A, "ab", 1), ([AB], 1, A, "ba", 1)),
            (words_for, (BOOK, ["he"], 1, S), (BOOK, ["he"], 2, S)), (completed, (BOOK, ["he"], S, 2), (BOOK, ["he"], S, 3)),
            (gaps, (BOOK, ["he"], S), (BOOK, [], S)),
        ])

    def test_answers_are_new(self):
        words = ["he"]
        for function, told in ((fillers, ([AB], 1, A, "ab", 1)), (words_for, (BOOK, words, 1, S)),
                               (completed, (BOOK, words, S, 2)), (completed, (BOOK, words, A, 0)), (gaps, (BOOK, words, S))):
            ahead_of_it = function(*told)
            found = function(*told)
            self.assert_unshared(found, [told, ahead_of_it])
            if function is gaps:
                found[0][1].append(9)
            found.append(9)
            self.assertEqual(function(*told), ahead_of_it)
        self.assertEqual(words, ["he"])


if __name__ == "__main__":
    unittest.main()
