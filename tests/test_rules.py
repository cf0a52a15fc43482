"""rules.py: what the functions answer and refuse."""

import itertools
import random
import unittest

from samples import A, AB, AS, B, C, ODD, S, WITH, Checks, ahead, behind
from waitwords.books import Book, comes
from waitwords.cancelling import comes_plainly
from waitwords.errors import InvalidKind, InvalidLetter, InvalidNumber, InvalidWord, NotFlat
from waitwords.finding import comes_to
from waitwords.rules import greatest_length, is_endless, is_flat, kind_of_rule, least_length, nth_list, numbers
from waitwords.rules import rule_of, rules, useless
from waitwords.texts import show_kind

BAD, WORSE = ("plain", "B"), ("plain", "")
WRONG_LETTERS = ["", "A", "ab", "1", " ", "{", "\u00e9"]
WRONG_WORDS = ["", "abcdefghi", "He", "he she", "he1", " "]
ASKED = (numbers, nth_list, least_length, is_endless, greatest_length, useless)
FLAT = Book([("he", [A]), ("sleeps", [AS]), ("and", [ahead(A, behind(A, A))])])
# More than flat in each way.
ROUND = [behind(A, AB), ahead(AB, A), behind(behind(A, AB), B), ahead(B, ahead(AS, A)), WITH, behind(WITH, A),
         behind(A, WITH), ahead(A, WITH), behind(ahead(A, behind(WITH, B)), B)]


def rest(function, letter, number=5):
    """What a function is passed behind a book."""
    return {numbers: (letter, number), nth_list: (letter, number, 0)}.get(function, (letter,))


def flat_kinds(letters, most):
    found = [("plain", letter) for letter in letters]
    for _ in range(most):
        found += [kind for one in found for letter in letters for kind in
                  (behind(one, ("plain", letter)), ahead(("plain", letter), one)) if kind not in found]
    return found


def slow_lists(told, letter, length):
    """The lists of words of all parses of a letter, in the order of their numbers."""
    found = []
    for end, before, word, after in told:
        if end != letter:
            continue
        wants = before + after
        for lengths in itertools.product(range(1, length), repeat=len(wants)):
            if sum(lengths) == length - 1:
                for lists in itertools.product(*[slow_lists(told, *pair) for pair in zip(wants, lengths)]):
                    words = list(lists)
                    words.insert(len(before), [word])
                    found.append([one for group in words for one in group])
    return found


def lengths_by_height(told, letter, height):
    """The lengths of all parses of a letter that are just so high, and of all lower ones, as two sets."""
    if height == 0:
        return set(), set()
    just, lower = set(), lengths_by_height(told, letter, height - 1)
    for end, before, _, after in told:
        if end == letter:
            inner = [lengths_by_height(told, wanted, height - 1) for wanted in before + after]
            for chosen in itertools.product([0, 1], repeat=len(inner)):
                # At least one within is as high as it can be.
                if 0 in chosen or height == 1 and not inner:
                    for lengths in itertools.product(*[pair[at] for pair, at in zip(inner, chosen)]):
                        just.add(1 + sum(lengths))
    return just, lower[0] | lower[1]


def some_books(many, letters="ab", most=2):
    """A list of flat books, always the same ones."""
    chance = random.Random(71)
    kinds = flat_kinds(letters, most)
    found = []
    for number in range(many):
        entries = []
        for word in chance.sample(["a", "b", "to", "zz"], 1 + number % 4):
            entries.append((word, chance.sample(kinds, chance.randrange(1, 3))))
        found.append(Book(entries))
    return found


class Rules(Checks, unittest.TestCase):

    def test_is_flat(self):
        for kind in (A, AB, AS, behind(AB, C), ahead(C, AB), behind(ahead(B, behind(AS, A)), A)):
            self.assert_answer(True, is_flat, kind=kind)
        for kind in ROUND:
            self.assert_answer(False, is_flat, kind=kind)

    def test_rule_of(self):
        self.assert_answer(("a", [], "he", []), rule_of, word="he", kind=A)
        self.assert_answer(("a", [], "he", ["b"]), rule_of, word="he", kind=AB)
        self.assert_answer(("s", ["a"], "sleeps", []), rule_of, word="sleeps", kind=AS)
        self.assert_answer(("a", [], "z", ["c", "b"]), rule_of, word="z", kind=behind(AB, C))
        self.assert_answer(("s", ["a", "c"], "z", []), rule_of, word="z", kind=ahead(C, AS))
        self.assert_answer(("s", ["a"], "z", ["b"]), rule_of, word="z", kind=ahead(A, behind(S, B)))
        self.assert_answer(("s", ["a"], "z", ["b"]), rule_of, word="z", kind=behind(AS, B))
        kind = behind(ahead(A, behind(ahead(B, S), C)), S)
        self.assert_answer(("s", ["b", "a"], "abcdefgh", ["s", "c"]), rule_of, word="abcdefgh", kind=kind)

    def test_rules(self):
        self.assert_answer([("a", [], "he", []), ("s", ["a"], "sleeps", []), ("a", ["a"], "and", ["a"])], rules, book=FLAT)
        self.assert_answer([], rules, book=Book([]))
        # Rules of two kinds of a word may be alike.
        kinds = [ahead(A, behind(S, B)), C, behind(AS, B)]
        self.assert_answer([("s", ["a"], "z", ["b"]), ("c", [], "z", []), ("s", ["a"], "z", ["b"]), ("a", [], "b", [])],
                           rules, book=Book([("z", kinds), ("b", [A])]))

    def test_kind_of_rule(self):
        self.assert_answer(A, kind_of_rule, rule=("a", [], "he", []))
        self.assert_answer(AB, kind_of_rule, rule=("a", [], "he", ["b"]))
        self.assert_answer(AS, kind_of_rule, rule=("s", ["a"], "he", []))
        self.assert_answer(behind(behind(A, C), B), kind_of_rule, rule=("a", [], "he", ["b", "c"]))
        self.assert_answer(ahead(C, AS), kind_of_rule, rule=("s", ["a", "c"], "he", []))
        self.assert_answer(behind(behind(ahead(C, AS), B), A), kind_of_rule, rule=("s", ["a", "c"], "he", ["a", "b"]))

    def test_there_and_back(self):
        for kind in flat_kinds("abs", 3):
            rule = rule_of("he", kind)
            self.assertEqual(rule_of("he", kind_of_rule(rule)), rule)
            text = show_kind(kind_of_rule(rule))
            self.assertLessEqual(text.rfind("\\"), text.find("/") if "/" in text else len(text))


class Parses(Checks, unittest.TestCase):

    def test_numbers(self):
        self.assert_answer([0, 0, 1, 0, 1, 0, 2], numbers, book=FLAT, letter="s", most=6)
        self.assert_answer([0, 1, 0, 1, 0, 2, 0, 5], numbers, book=FLAT, letter="a", most=7)
        self.assert_answer([0], numbers, book=FLAT, letter="a", most=0)
        self.assert_answer([0, 1], numbers, book=FLAT, letter="a", most=1)
        self.assert_answer([0, 0, 0, 0], numbers, book=FLAT, letter="z", most=3)
        self.assert_answer([0, 0, 0], numbers, book=Book([]), letter="a", most=2)
        self.assert_answer([0, 0, 0, 0], numbers, book=Book([("z", [AB])]), letter="b", most=3)
        self.assert_answer([0, 0, 0, 0], numbers, book=Book([("z", [behind(A, A)])]), letter="a", most=3)
        # Alike rules of two kinds make two parses.
        both = Book([("z", [ahead(A, behind(S, B)), behind(AS, B)]), ("b", [A, B])])
        self.assert_answer([0, 0, 0, 2, 0], numbers, book=both, letter="s", most=4)

    def test_great_numbers(self):
        # Trees with two within, and one word each: how many there are is told by their own table.
        two = Book([("a", [A]), ("b", [behind(behind(A, A), A)])])
        trees = [0, 1]
        for many in range(2, 16):
            trees.append(sum(trees[left] * trees[many - left] for left in range(1, many)))
        self.assertEqual(numbers(two, "a", 30)[1::2], trees[1:])
        six = Book([(word, [A, behind(A, A), behind(behind(A, A), A)]) for word in "bcdefg"])
        self.assertEqual(numbers(six, "a", 4), [0, 6, 36, 6 ** 3 + 6 ** 3, 6 ** 4 + 3 * 6 ** 4])
        self.assertEqual(len(str(numbers(six, "a", 30)[30])), 36)

    def test_nth_list(self):
        self.assert_answer(["he", "and", "he", "sleeps"], nth_list, book=FLAT, letter="s", length=4, number=0)
        self.assert_answer(None, nth_list, book=FLAT, letter="s", length=4, number=1)
        self.assert_answer(None, nth_list, book=FLAT, letter="s", length=3, number=0)
        self.assert_answer(["he"], nth_list, book=FLAT, letter="a", length=1, number=0)
        self.assert_answer(None, nth_list, book=FLAT, letter="a", length=0, number=0)
        self.assert_answer(None, nth_list, book=FLAT, letter="z", length=1, number=0)
        self.assert_answer(None, nth_list, book=Book([]), letter="a", length=5, number=3)
        self.assert_answer(None, nth_list, book=FLAT, letter="a", length=30, number=0)
        chain = Book([("b", [behind(A, A), A]), ("c", [A])])
        self.assert_answer(["b", "b", "b"], nth_list, book=chain, letter="a", length=3, number=0)
        self.assert_answer(["b", "b", "c"], nth_list, book=chain, letter="a", length=3, number=1)
        self.assert_answer(None, nth_list, book=chain, letter="a", length=3, number=2)
        self.assert_answer(["b"] * 29 + ["c"], nth_list, book=chain, letter="a", length=30, number=1)

    def test_numbers_of_parses_against_trees(self):
        most = 0
        for book in some_books(120) + some_books(40, "abc", 3) + some_books(60, "a", 3):
            told = rules(book)
            for letter in "abz":
                counts = numbers(book, letter, 6)
                self.assertEqual([len(counts), counts[0]], [7, 0])
                for length in range(1, 6 if max(counts) < 500 else 4):
                    lists = slow_lists(told, letter, length)
                    most = max(most, len(lists))
                    self.assertEqual(counts[length], len(lists))
                    for number, words in list(enumerate(lists))[:40] + list(enumerate(lists))[-10:]:
                        self.assertEqual(nth_list(book, letter, length, number), words)
                    self.assertIsNone(nth_list(book, letter, length, len(lists)))
                    self.assertIsNone(nth_list(book, letter, length, len(lists) + 10 ** 20))
        self.assertGreater(most, 100)

    def test_each_number_has_a_list_of_its_own(self):
        two = Book([("and", [ahead(A, behind(A, A))]), ("he", [A]), ("it", [A])])
        counts = numbers(two, "a", 9)
        found = [nth_list(two, "a", 7, number) for number in range(counts[7])]
        self.assertEqual(found, slow_lists(rules(two), "a", 7))
        self.assertEqual(counts[7], 5 * 2 ** 4)
        last = nth_list(two, "a", 9, counts[9] - 1)
        self.assertEqual([len(last), last[-1], nth_list(two, "a", 9, counts[9])], [9, "it", None])
        far = numbers(two, "a", 29)[29]
        self.assertEqual(len(nth_list(two, "a", 29, far - 1)), 29)
        self.assertIsNone(nth_list(two, "a", 29, far))

    def test_lengths(self):
        for book, letter, least, endless, greatest in (
                (FLAT, "s", 2, True, None), (FLAT, "a", 1, True, None), (FLAT, "z", None, False, None),
                (Book([]), "a", None, False, None), (Book([("z", [AB])]), "a", None, False, None),
                (Book([("z", [AB, B])]), "a", 2, False, 2), (Book([("z", [A])]), "a", 1, False, 1),
                (Book([("z", [behind(A, A)])]), "a", None, False, None),
                (Book([("z", [behind(A, A), A])]), "a", 1, True, None),
                (Book([("z", [behind(A, B), B, behind(B, A)])]), "a", 2, True, None),
                (Book([("z", [behind(A, B), B, behind(C, C), C])]), "a", 2, False, 2),
                (Book([("z", [behind(A, B), B, behind(B, C)])]), "a", 2, False, 2),
                (Book([("z", [behind(behind(A, B), B), behind(B, C), B, C])]), "a", 3, False, 5),
                (Book([("y", [AS, A]), ("z", [AB, B, behind(B, S)])]), "s", 2, True, None)):
            self.assert_answer(least, least_length, book=book, letter=letter)
            self.assert_answer(endless, is_endless, book=book, letter=letter)
            self.assert_answer(greatest, greatest_length, book=book, letter=letter)

    def test_lengths_beyond_all_tables(self):
        # Each letter wants six of the next one.
        letters = "abcdefghijklmnopqr"
        entries = []
        for at in range(0, 18, 3):
            kinds = []
            for letter in letters[at:at + 3]:
                kind = ("plain", letter)
                after = ("plain", letters[letters.index(letter) + 1]) if letter != "r" else None
                for _ in range(6 if after else 0):
                    kind = behind(kind, after)
                kinds.append(kind)
            entries.append(("w" + letters[at], kinds))
        book = Book(entries)
        whole = sum(6 ** many for many in range(18))
        for function in (least_length, greatest_length):
            self.assertEqual(function(book, "a"), whole)
            self.assertEqual(function(book, "r"), 1)
        self.assertFalse(is_endless(book, "a"))
        self.assertEqual(numbers(book, "a", 30), [0] * 31)
        self.assertEqual(useless(book, "a"), [])
        self.assertEqual(len(useless(book, "r")), 17)

    def test_lengths_against_trees_by_height(self):
        counts = {True: 0, False: 0, None: 0}
        for book in some_books(150, "ab", 1) + some_books(150, "abc", 1) + some_books(60, "ab", 2):
            told = rules(book)
            many = len({letter for end, before, _, after in told for letter in [end] + before + after})
            for letter in "abc":
                just, lower = lengths_by_height(told, letter, many)
                found = just | lower
                # What is higher than there are letters has one within itself; the lowest such is at most twice as high.
                heights = range(many + 1, 2 * many + 2)
                endless = any(lengths_by_height(told, letter, height)[0] for height in heights)
                self.assertEqual(least_length(book, letter), min(found, default=None))
                self.assertIs(is_endless(book, letter), endless)
                self.assertEqual(greatest_length(book, letter), None if endless else max(found, default=None))
                counts[endless if found else None] += 1
        self.assertGreater(min(counts.values()), 50)

    def test_useless(self):
        self.assert_answer([], useless, book=FLAT, letter="s")
        self.assert_answer([("sleeps", AS)], useless, book=FLAT, letter="a")
        self.assert_answer([("and", ahead(A, behind(A, A))), ("he", A), ("sleeps", AS)], useless, book=FLAT, letter="z")
        self.assert_answer([], useless, book=Book([]), letter="a")
        # What is never whole stands in no parse, nor does what stands beside it alone.
        book = Book([("we", [C, behind(behind(A, B), C), A]), ("it", [behind(B, B), C])])
        self.assert_answer([("it", behind(B, B)), ("it", C), ("we", behind(AB, C)), ("we", C)], useless,
                           book=book, letter="a")
        both = Book([("z", [ahead(A, behind(S, B)), behind(AS, B)]), ("b", [A, B])])
        self.assert_answer([], useless, book=both, letter="s")
        self.assert_answer([("b", B), ("z", behind(AS, B)), ("z", ahead(A, behind(S, B)))], useless, book=both, letter="a")

    def test_useless_against_books_without_one(self):
        found = 0
        for book in some_books(80) + some_books(60, "abc", 1):
            for letter in "ab":
                told = []
                whole = numbers(book, letter, 24)
                for word, kinds in book.entries:
                    for one in kinds:
                        left = [(other, [k for k in ks if (other, k) != (word, one)]) for other, ks in book.entries]
                        if numbers(Book([(other, ks) for other, ks in left if ks]), letter, 24) == whole:
                            told.append((word, one))
                told.sort(key=lambda pair: (pair[0], show_kind(pair[1])))
                self.assertEqual(useless(book, letter), told)
                found += 0 < len(told) < len(book)
        self.assertGreater(found, 30)


class Flatness(Checks, unittest.TestCase):

    def test_flat_rows_come_by_putting_together_alone(self):
        chance = random.Random(72)
        kinds = [kind for kind in flat_kinds("ab", 2)]
        counts = {True: 0, False: 0}
        while min(counts.values()) < 150:
            row = [chance.choice(kinds) for _ in range(chance.randrange(1, 5))]
            comes_so = comes_plainly(row, A)
            counts[comes_so] += 1
            self.assertIs(comes_to(row, A), comes_so)

    def test_lists_of_parses_come_and_no_others(self):
        came = 0
        for book in some_books(60, "a") + some_books(60, "ab", 1):
            told = rules(book)
            for length in (1, 2, 3):
                parsed = {tuple(words) for words in slow_lists(told, "a", length)}
                for words in itertools.product(book.words(), repeat=length):
                    self.assertIs(comes(book, list(words), A), words in parsed)
                came += len(parsed)
        self.assertGreater(came, 50)


class Refused(Checks, unittest.TestCase):

    def test_invalid_word(self):
        for word in WRONG_WORDS:
            self.assert_refused(InvalidWord, word, rule_of, word, BAD)
            self.assert_refused(InvalidWord, word, rule_of, word=word, kind=WITH)

    def test_invalid_kind(self):
        self.assert_refused(InvalidKind, BAD, is_flat, behind(WITH, BAD))
        self.assert_refused(InvalidKind, ODD, is_flat, kind=ODD)
        self.assert_refused(InvalidKind, WORSE, rule_of, "he", behind(A, behind(WORSE, BAD)))
        self.assert_refused(InvalidKind, ODD, rule_of, word="he", kind=ODD)

    def test_not_flat(self):
        for kind in ROUND:
            self.assert_refused(NotFlat, kind, rule_of, "he", kind)
            self.assert_refused(NotFlat, kind, rule_of, word="he", kind=kind)
            book = Book([("he", [A, AS]), ("it", [B, kind, behind(kind, kind)]), ("a", [WITH])])
            self.assert_refused(NotFlat, kind, rules, book)
            self.assert_refused(NotFlat, kind, rules, book=book)
            for function in ASKED:
                self.assert_refused(NotFlat, kind, function, book, *rest(function, "A", -1))

    def test_invalid_letter(self):
        for text in WRONG_LETTERS:
            for function in ASKED:
                self.assert_refused(InvalidLetter, text, function, FLAT, *rest(function, text, -1))
                self.assert_refused(InvalidLetter, text, function, Book([]), *rest(function, text))
            self.assert_refused(InvalidLetter, text, least_length, book=FLAT, letter=text)
            self.assert_refused(InvalidLetter, text, numbers, book=FLAT, letter=text, most=-1)

    def test_invalid_number(self):
        for number in (-1, -2, -30):
            self.assert_refused(InvalidNumber, number, numbers, FLAT, "a", number)
            self.assert_refused(InvalidNumber, number, numbers, book=Book([]), letter="z", most=number)
            self.assert_refused(InvalidNumber, number, nth_list, FLAT, "a", number, -7)
            self.assert_refused(InvalidNumber, number, nth_list, FLAT, "a", 3, number)
            self.assert_refused(InvalidNumber, number, nth_list, book=Book([]), letter="z", length=0, number=number)

    def test_behind_a_refused_call_all_is_as_ahead(self):
        self.assert_as_ahead([
            (is_flat, (AB,), (ODD,)), (rule_of, ("he", AB), ("he", WITH)), (rules, (FLAT,), (Book([("he", [WITH])]),)),
            (numbers, (FLAT, "a", 7), (FLAT, "a", -1)), (least_length, (FLAT, "s"), (FLAT, "S")),
            (is_endless, (FLAT, "s"), (FLAT, "S")), (greatest_length, (FLAT, "s"), (FLAT, "S")),
            (useless, (FLAT, "a"), (FLAT, "A")), (nth_list, (FLAT, "s", 4, 0), (FLAT, "s", 4, -1)),
        ])

    def test_answers_are_new(self):
        for function, told in ((rules, (FLAT,)), (rule_of, ("he", AB)), (numbers, (FLAT, "a", 3)), (useless, (FLAT, "a")),
                               (nth_list, (FLAT, "s", 4, 0))):
            ahead_of_it = function(*told)
            found = function(*told)
            self.assert_unshared(found, [told, ahead_of_it])
            (found[1] if isinstance(found, tuple) else found).append(9)
            self.assertEqual(function(*told), ahead_of_it)
        rule = ("a", ["a"], "and", ["a"])
        kind_of_rule(rule)
        self.assertEqual(rule, ("a", ["a"], "and", ["a"]))


if __name__ == "__main__":
    unittest.main()
