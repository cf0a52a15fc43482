"""learning.py: what the functions answer and refuse."""

import itertools
import random
import unittest

from bookways import any_tree
from samples import A, AB, AS, B, C, ODD, S, WITH, Checks, ahead, all_kinds, behind
from slowways import kind_of_size
from waitwords.books import Book, comes, swapped_book
from waitwords.errors import InvalidBook, InvalidKind, InvalidLetter, InvalidTree, InvalidWord, UnknownWord
from waitwords.kinds import letters
from waitwords.learning import fits, general, least_book, leaves, lets, unified

BAD, WORSE = ("plain", "B"), ("plain", "")
D, T = ("plain", "d"), ("plain", "t")
WRONG_WORDS = ["", "abcdefghi", "He", "he she", "he1", " "]
WRONG_LETTERS = ["", "A", "ab", "1", " ", "{"]
TEXTS = ("behind", "ahead", "with")


def leaf(word):
    return ("leaf", word)


HE, SHE, SLEEPS, THE, CAT = map(leaf, ["he", "she", "sleeps", "the", "cat"])
TREES = [ahead(HE, SLEEPS), ahead(behind(THE, CAT), SLEEPS)]


def put(kind, table):
    """The kind with the kinds of a dict for its letters, all at once."""
    if kind[0] == "plain":
        return table.get(kind[1], kind)
    return (kind[0], put(kind[1], table), put(kind[2], table))


def slow_leaves(tree):
    return [tree[1]] if tree[0] == "leaf" else slow_leaves(tree[1]) + slow_leaves(tree[2])


def slow_general(trees, letter):
    free = [sign for sign in "abcdefghijklmnopqrstuvwxyz" if sign != letter]
    found = []

    def go(tree, kind):
        if tree[0] == "leaf":
            found.append((tree[1], kind))
            return
        own = ("plain", free.pop(0))
        if tree[0] == "behind":
            go(tree[1], behind(kind, own))
            go(tree[2], own)
        else:
            go(tree[1], own)
            go(tree[2], ahead(own, kind))

    for tree in trees:
        go(tree, ("plain", letter))
    return found


def shown_by(tree, kinds):
    """What a tree puts a list of kinds for its leaves together to, None if nothing; they are taken from the list."""
    if tree[0] == "leaf":
        return kinds.pop(0)
    one, other = shown_by(tree[1], kinds), shown_by(tree[2], kinds)
    if one is None or other is None:
        return None
    if tree[0] == "behind":
        return one[1] if one[0] == "behind" and one[2] == other else None
    return other[2] if other[0] == "ahead" and other[1] == one else None


def slow_lets(book, tree, letter):
    choices = [dict(book.entries)[word] for word in slow_leaves(tree)]
    return any(shown_by(tree, list(kinds)) == ("plain", letter) for kinds in itertools.product(*choices))


class Leaves(Checks, unittest.TestCase):

    def test_leaves(self):
        self.assert_answer(["he"], leaves, tree=HE)
        self.assert_answer(["he", "sleeps"], leaves, tree=TREES[0])
        self.assert_answer(["the", "cat", "sleeps"], leaves, tree=TREES[1])
        self.assert_answer(["a", "b", "a", "to", "abcdefgh"], leaves, tree=behind(
            ahead(leaf("a"), leaf("b")), behind(behind(leaf("a"), leaf("to")), leaf("abcdefgh"))))

    def test_general(self):
        self.assert_answer([("he", A), ("sleeps", AS)], general, trees=TREES[:1], letter="s")
        self.assert_answer([], general, trees=[], letter="s")
        self.assert_answer([("he", S)], general, trees=[HE], letter="s")
        self.assert_answer([("he", behind(S, A)), ("she", A)], general, trees=[behind(HE, SHE)], letter="s")
        # The told letter is passed by, and the letters run on from tree to tree, a tuple ahead of those within it.
        self.assert_answer([("he", B), ("sleeps", ahead(B, A)), ("the", behind(C, D)), ("cat", D),
                            ("sleeps", ahead(C, A)), ("he", A)], general, trees=TREES + [HE], letter="a")
        tree = behind(ahead(HE, behind(SLEEPS, THE)), ahead(CAT, SHE))
        self.assert_answer([("he", B), ("sleeps", behind(ahead(B, behind(S, A)), C)), ("the", C), ("cat", D),
                            ("she", ahead(D, A))], general, trees=[tree], letter="s")

    def test_general_against_a_slow_way(self):
        chance = random.Random(91)
        for _ in range(300):
            trees = [any_tree(chance, chance.choice([1, 2, 3, 4, 8]), ["a", "b", "to"]) for _ in range(chance.randrange(5))]
            while sum(len(slow_leaves(tree)) for tree in trees) > 16:
                trees.pop()
            letter = chance.choice("abcsz")
            found = general(trees, letter)
            self.assertEqual(found, slow_general(trees, letter))
            self.assertEqual([word for word, _ in found], [word for tree in trees for word in leaves(tree)])
            kinds = [kind for _, kind in found]
            for tree in trees:
                self.assertEqual(shown_by(tree, kinds), ("plain", letter))

    def test_sixteen_leaves(self):
        trees = [any_tree(random.Random(5), 8, ["a", "b"]) for _ in range(2)]
        found = general(trees, "a")
        self.assertEqual(set("".join(letters(kind) for _, kind in found)), set("abcdefghijklmno"))


class Unified(Checks, unittest.TestCase):

    def test_unified(self):
        self.assert_answer([], unified, pairs=[])
        self.assert_answer([], unified, pairs=[(A, A)])
        self.assert_answer([], unified, pairs=[(WITH, WITH), (AB, AB)])
        self.assert_answer([("b", A)], unified, pairs=[(A, B)])
        self.assert_answer([("b", A)], unified, pairs=[(B, A)])
        self.assert_answer([("b", A), ("s", A)], unified, pairs=[(AB, behind(B, S))])
        self.assert_answer([("b", A), ("s", A)], unified, pairs=[(S, B), (B, A)])
        self.assert_answer([("b", A), ("c", A), ("s", A)], unified, pairs=[(S, C), (B, A), (C, B)])
        self.assert_answer([("s", AB)], unified, pairs=[(S, AB)])
        self.assert_answer([("s", AB)], unified, pairs=[(AB, S)])
        self.assert_answer([("a", behind(C, B)), ("s", behind(C, B))], unified, pairs=[(S, A), (A, behind(C, B))])
        self.assert_answer([("s", ("with", A, A))], unified, pairs=[(S, ("with", A, A))])
        self.assert_answer([("c", B), ("s", A)], unified, pairs=[(WITH, ("with", S, C))])
        self.assert_answer([("c", behind(A, A)), ("s", ahead(behind(A, A), B))], unified,
                           pairs=[(S, ahead(C, B)), (C, behind(A, A))])

    def test_none(self):
        for pairs in ([(AB, AS)], [(AB, WITH)], [(A, AB)], [(AB, B)], [(WITH, A)], [(A, B), (AB, A)],
                      [(A, behind(B, C)), (B, ahead(A, S))], [(behind(A, A), behind(AB, B))],
                      [(A, behind(A, A)), (A, S)], [(S, A), (S, AB)], [(behind(A, AB), behind(behind(B, C), C))]):
            self.assert_answer(None, unified, pairs=pairs)
        # Letters of which each stands in what would be put for it make no end.
        self.assert_answer(None, unified, pairs=[(A, behind(A, A)), (B, behind(B, B)), (A, B)])
        self.assert_answer(None, unified, pairs=[(A, B), (A, behind(B, B)), (B, behind(A, A))])

    def test_like_letters_first(self):
        self.assert_answer([("b", behind(A, A))], unified, pairs=[(B, behind(A, A)), (B, behind(A, A))])
        self.assert_answer([("b", ahead(S, S)), ("c", ahead(S, S))], unified, pairs=[(B, C), (ahead(S, S), C)])
        self.assert_answer([("t", S)], unified, pairs=[(T, S)])

    def test_each_letter_may_be_put_away(self):
        for letter in "bcdefghijklmnopqrstuvwxyz":
            plain = ("plain", letter)
            self.assert_answer([(letter, A)], unified, pairs=[(plain, A)])
            self.assert_answer([(letter, AB)] if letter != "b" else None, unified, pairs=[(AB, plain)])
        self.assert_answer([("z", ("plain", "y"))], unified, pairs=[(("plain", "z"), ("plain", "y"))])

    def test_kinds_that_grow(self):
        names = "abcdefg"
        plain = [("plain", letter) for letter in names]
        pairs = [(one, behind(behind(other, other), behind(other, other))) for one, other in zip(plain, plain[1:])]
        found = unified(pairs)
        self.assertEqual([letter for letter, _ in found], list("abcdef"))
        self.assertEqual(str(found[0][1]).count("'g'"), 4 ** 6)

    def test_against_all_ways(self):
        chance = random.Random(92)
        pool = [kind for kind in all_kinds("ab", 2, TEXTS)]
        counts = {True: 0, False: 0}
        for number in range(1500):
            signs = "abc" if number % 2 else "ab"
            pairs = [tuple(kind_of_size(chance, chance.choice([1, 2, 2, 3, 4]), signs, TEXTS[:1 + number % 3])
                           for _ in range(2)) for _ in range(chance.choice([1, 1, 2, 3]))]
            found = unified(pairs)
            counts[found is None] += 1
            used = sorted(set("".join(letters(kind) for pair in pairs for kind in pair)))
            if found is not None:
                self.check_table(pairs, dict(found), used)
                self.assertEqual([letter for letter, _ in found], sorted(dict(found)))
            for _ in range(60):
                other = {letter: chance.choice(pool) for letter in used}
                if all(put(one, other) == put(two, other) for one, two in pairs):
                    # Any other way comes of this one by putting kinds for letters.
                    self.assertIsNotNone(found)
                    table = dict(found)
                    self.assertEqual({letter: put(put(("plain", letter), table), other) for letter in used}, other)
        self.assertGreater(min(counts.values()), 150)

    def check_table(self, pairs, table, used):
        self.assertLessEqual(set(table), set(used))
        for one, two in pairs:
            self.assertEqual(put(one, table), put(two, table))
        for letter, kind in table.items():
            self.assertFalse(set(letters(kind)) & set(table))
            self.assertLessEqual(set(letters(kind)), set(used))
            if kind[0] == "plain":
                self.assertLess(kind[1], letter)


class Least(Checks, unittest.TestCase):

    def test_least_book(self):
        self.assert_answer(Book([("he", [A]), ("sleeps", [AS]), ("the", [behind(A, C)]), ("cat", [C])]), least_book,
                           trees=TREES, letter="s")
        self.assert_answer(Book([]), least_book, trees=[], letter="s")
        self.assert_answer(Book([("he", [S])]), least_book, trees=[HE], letter="s")
        self.assert_answer(Book([("he", [S])]), least_book, trees=[HE, HE, HE], letter="s")
        self.assert_answer(Book([("he", [B]), ("sleeps", [ahead(B, A)])]), least_book, trees=TREES[:1], letter="a")

    def test_the_told_letter_stays(self):
        # He is what a whole is, too, so his letter is put away, though it comes sooner.
        self.assert_answer(Book([("he", [S]), ("sleeps", [ahead(S, S)])]), least_book, trees=[TREES[0], HE], letter="s")
        self.assert_answer(Book([("he", [S]), ("sleeps", [ahead(S, S)])]), least_book, trees=[HE, TREES[0]], letter="s")
        self.assert_answer(Book([("he", [A]), ("sleeps", [ahead(A, A)])]), least_book, trees=[TREES[0], HE], letter="a")

    def test_none(self):
        # The told letter would have to wait.
        self.assert_answer(None, least_book, trees=[TREES[0], SLEEPS], letter="s")
        self.assert_answer(None, least_book, trees=[SLEEPS, TREES[0]], letter="a")
        self.assert_answer(None, least_book, trees=[behind(HE, HE)], letter="s")
        self.assert_answer(None, least_book, trees=[ahead(HE, SHE), behind(SHE, HE)], letter="s")
        self.assert_answer(None, least_book, trees=[behind(HE, behind(HE, HE))], letter="s")

    def test_a_word_at_unlike_leaves(self):
        self.assert_answer(Book([("a", [behind(S, A)]), ("b", [A])]), least_book,
                           trees=[behind(leaf("a"), leaf("b"))] * 2, letter="s")
        tree = behind(leaf("a"), behind(leaf("b"), leaf("c")))
        self.assert_answer(Book([("a", [behind(S, S)]), ("b", [behind(S, B)]), ("c", [B])]), least_book,
                           trees=[tree, behind(leaf("b"), leaf("c"))], letter="s")
        # A leaf may be what another one waits for, and wait itself.
        found = least_book([behind(leaf("a"), leaf("b")), behind(leaf("b"), leaf("c"))], "s")
        self.assertEqual(found.entries, [("a", [behind(S, behind(S, B))]), ("b", [behind(S, B)]), ("c", [B])])

    def test_the_least_book_lets_each_tree_and_others_come_of_it(self):
        chance = random.Random(93)
        words = ["a", "b", "to"]
        pool = [kind for kind in all_kinds("as", 2, ("behind", "ahead"))]
        pool += [behind(kind, S) for kind in pool[2:]] + [ahead(S, kind) for kind in pool[2:]]
        counts = {True: 0, False: 0}
        others = 0
        for _ in range(400):
            trees = [any_tree(chance, chance.choice([1, 2, 2, 3, 4]), words) for _ in range(chance.choice([1, 1, 2, 3]))]
            found = least_book(trees, "s")
            counts[found is None] += 1
            used = [word for tree in trees for word in slow_leaves(tree)]
            used = [word for at, word in enumerate(used) if word not in used[:at]]
            if found is not None:
                self.assertEqual([word for word, _ in found.entries], used)
                self.assertEqual([len(kinds) for _, kinds in found.entries], [1] * len(used))
                for tree in trees:
                    self.assertTrue(lets(found, tree, "s"))
                    self.assertTrue(slow_lets(found, tree, "s"))
                    if len(slow_leaves(tree)) < 5:
                        self.assertTrue(comes(found, slow_leaves(tree), S))
            for kinds in itertools.product(pool, repeat=len(used)) if len(used) < 3 else []:
                other = Book([(word, [kind]) for word, kind in zip(used, kinds)])
                if all(slow_lets(other, tree, "s") for tree in trees):
                    others += 1
                    self.assertIsNotNone(found)
                    table = dict(fits(found, other, "s"))
                    self.assertEqual([(word, [put(kinds[0], table)]) for word, kinds in found.entries], other.entries)
        self.assertGreater(min(counts.values()), 50)
        self.assertGreater(others, 100)

    def test_what_comes_of_the_least_book_lets_the_trees(self):
        found = least_book(TREES, "s")
        for letter, kind in (("a", behind(S, B)), ("c", WITH), ("a", C)):
            other = swapped_book(found, letter, kind)
            for tree in TREES:
                self.assertTrue(lets(other, tree, "s"))
            self.assertIsNotNone(fits(found, other, "s"))


class Lets(Checks, unittest.TestCase):

    def test_lets(self):
        book = Book([("he", [A]), ("sleeps", [AS, A]), ("the", [behind(A, C)]), ("cat", [C])])
        for tree in TREES:
            self.assert_answer(True, lets, book=book, tree=tree, letter="s")
            self.assert_answer(False, lets, book=book, tree=tree, letter="a")
        self.assert_answer(True, lets, book=book, tree=HE, letter="a")
        self.assert_answer(False, lets, book=book, tree=HE, letter="s")
        self.assert_answer(False, lets, book=book, tree=THE, letter="a")
        self.assert_answer(True, lets, book=book, tree=behind(THE, CAT), letter="a")
        # Just as the tree says: not the other way about, and Q shows just what P waits for.
        self.assert_answer(False, lets, book=book, tree=ahead(THE, CAT), letter="a")
        self.assert_answer(False, lets, book=book, tree=ahead(behind(THE, HE), SLEEPS), letter="s")
        self.assert_answer(False, lets, book=book, tree=behind(HE, SLEEPS), letter="s")

    def test_what_comes_otherwise_alone_is_not_let(self):
        lift = behind(S, AS)
        book = Book([("he", [A]), ("so", [behind(S, lift)])])
        self.assertTrue(comes(book, ["so", "he"], S))
        self.assert_answer(False, lets, book=book, tree=behind(leaf("so"), HE), letter="s")

    def test_unlike_kinds_at_leaves_of_one_word(self):
        book = Book([("do", [behind(S, A), A])])
        do = leaf("do")
        self.assert_answer(True, lets, book=book, tree=behind(do, do), letter="s")
        self.assert_answer(False, lets, book=book, tree=ahead(do, do), letter="s")
        self.assert_answer(False, lets, book=book, tree=behind(do, behind(do, do)), letter="s")
        book = Book([("do", [behind(S, A), behind(A, A), A])])
        self.assert_answer(True, lets, book=book, tree=behind(do, behind(do, behind(do, do))), letter="s")
        self.assert_answer(False, lets, book=book, tree=behind(behind(do, do), do), letter="s")

    def test_against_all_choices(self):
        chance = random.Random(94)
        counts = {True: 0, False: 0}
        kinds = [kind for kind in all_kinds("as", 2, ("behind", "ahead"))]
        kinds += [behind(behind(S, A), A), ahead(A, behind(S, A)), behind(AS, A), ahead(S, AS), behind(S, AS)]
        while min(counts.values()) < 250:
            book = Book([(word, chance.sample(kinds, chance.randrange(1, 4))) for word in ("a", "b", "to")])
            tree = any_tree(chance, chance.choice([1, 2, 3, 4]), ["a", "b", "to"])
            letter = chance.choice("as")
            told = slow_lets(book, tree, letter)
            counts[told] += 1
            self.assertIs(lets(book, tree, letter), told)


class Fits(Checks, unittest.TestCase):

    def test_fits(self):
        book = Book([("he", [A]), ("sleeps", [AS])])
        self.assert_answer([("a", A)], fits, book=book, other=book, letter="s")
        self.assert_answer([("a", B)], fits, book=book, other=Book([("sleeps", [ahead(B, S)]), ("he", [B])]), letter="s")
        self.assert_answer([("a", S)], fits, book=book, other=Book([("he", [S]), ("sleeps", [ahead(S, S)])]), letter="s")
        self.assert_answer([("a", WITH)], fits, book=book, other=Book([("he", [WITH]), ("sleeps", [ahead(WITH, S)])]),
                           letter="s")
        self.assert_answer(None, fits, book=book, other=Book([("he", [B]), ("sleeps", [AS])]), letter="s")
        # The told letter stays.
        self.assert_answer(None, fits, book=book, other=Book([("he", [A]), ("sleeps", [ahead(A, B)])]), letter="s")
        self.assert_answer([("a", A), ("s", B)], fits, book=book, other=Book([("he", [A]), ("sleeps", [ahead(A, B)])]),
                           letter="z")
        self.assert_answer(None, fits, book=book, other=Book([("he", [B]), ("sleeps", [ahead(B, S)])]), letter="a")
        self.assert_answer([("s", B)], fits, book=book, other=Book([("he", [A]), ("sleeps", [ahead(A, B)])]), letter="a")
        self.assert_answer(None, fits, book=Book([("he", [AB])]), other=Book([("he", [A])]), letter="s")
        self.assert_answer(None, fits, book=Book([("he", [AB])]), other=Book([("he", [WITH])]), letter="s")
        self.assert_answer(None, fits, book=Book([("he", [S])]), other=Book([("he", [AB])]), letter="s")

    def test_letters_ascend(self):
        book = Book([("he", [S]), ("it", [behind(B, A)]), ("z", [ahead(C, T)])])
        other = Book([("he", [A]), ("it", [behind(WITH, C)]), ("z", [ahead(B, T)])])
        self.assert_answer([("a", C), ("b", WITH), ("c", B), ("s", A)], fits, book=book, other=other, letter="t")

    def test_words_of_the_other_book_alone_are_left_aside(self):
        other = Book([("z", [AB, A]), ("he", [B]), ("a", [WITH])])
        self.assert_answer([("a", B)], fits, book=Book([("he", [A])]), other=other, letter="s")
        self.assert_answer([], fits, book=Book([]), other=other, letter="s")
        self.assert_answer([], fits, book=Book([("he", [S])]), other=Book([("he", [S]), ("z", [S, A])]), letter="s")


class Refused(Checks, unittest.TestCase):

    def test_invalid_word(self):
        for word in WRONG_WORDS:
            bad = leaf(word)
            self.assert_refused(InvalidWord, word, leaves, behind(ODD, bad))
            self.assert_refused(InvalidWord, word, leaves, tree=bad)
            for function in (general, least_book):
                self.assert_refused(InvalidWord, word, function, [ODD, ahead(HE, bad), leaf("HE")], "A")
                self.assert_refused(InvalidWord, word, function, trees=[bad], letter="a")
            self.assert_refused(InvalidWord, word, lets, Book([]), behind(ODD, behind(bad, leaf("1"))), "A")
            self.assert_refused(InvalidWord, word, lets, book=Book([]), tree=bad, letter="a")

    def test_invalid_tree(self):
        other = ("Leaf", "He", [HE])
        self.assert_refused(InvalidTree, ODD, leaves, behind(ahead(HE, ODD), other))
        self.assert_refused(InvalidTree, other, leaves, tree=other)
        self.assert_refused(InvalidTree, ("word",), leaves, behind(("word",), ODD))
        for function in (general, least_book):
            self.assert_refused(InvalidTree, other, function, [HE, behind(HE, other), ODD], "")
            self.assert_refused(InvalidTree, ODD, function, trees=[ODD], letter="a")
        self.assert_refused(InvalidTree, ODD, lets, Book([]), ahead(HE, ODD), "A")
        self.assert_refused(InvalidTree, ODD, lets, book=Book([]), tree=ODD, letter="a")

    def test_invalid_letter(self):
        for text in WRONG_LETTERS:
            for function in (general, least_book):
                self.assert_refused(InvalidLetter, text, function, TREES, text)
                self.assert_refused(InvalidLetter, text, function, trees=[], letter=text)
            self.assert_refused(InvalidLetter, text, lets, Book([]), HE, text)
            self.assert_refused(InvalidLetter, text, fits, Book([("he", [A, B])]), Book([]), text)
            self.assert_refused(InvalidLetter, text, fits, book=Book([]), other=Book([]), letter=text)

    def test_invalid_kind(self):
        self.assert_refused(InvalidKind, BAD, unified, [(A, B), (A, behind(BAD, WORSE)), (ODD, A)])
        self.assert_refused(InvalidKind, WORSE, unified, [(WORSE, BAD)])
        self.assert_refused(InvalidKind, ODD, unified, pairs=[(AB, A), (A, ODD)])

    def test_unknown_word(self):
        book = Book([("he", [A])])
        self.assert_refused(UnknownWord, "she", lets, book, behind(ahead(HE, SHE), CAT), "s")
        self.assert_refused(UnknownWord, "cat", lets, book=Book([]), tree=CAT, letter="a")

    def test_invalid_book(self):
        book = Book([("he", [A]), ("she", [A, B]), ("it", [A])])
        one = Book([("he", [A]), ("she", [A]), ("it", [A])])
        self.assert_refused(InvalidBook, "she", fits, book, one, "s")
        self.assert_refused(InvalidBook, "she", fits, one, book, "s")
        self.assert_refused(InvalidBook, "it", fits, one, Book([("he", [B]), ("she", [AB])]), "s")
        self.assert_refused(InvalidBook, "he", fits, book=book, other=Book([]), letter="s")
        self.assert_refused(InvalidBook, "he", fits, one, Book([("she", [A, B])]), "a")

    def test_behind_a_refused_call_all_is_as_ahead(self):
        book = Book([("he", [A]), ("sleeps", [AS])])
        self.assert_as_ahead([
            (leaves, (HE,), (ODD,)), (general, (TREES, "s"), (TREES, "S")), (unified, ([(AB, B)],), ([(AB, ODD)],)),
            (unified, ([(A, B)],), ([(AB, ODD)],)), (least_book, (TREES, "s"), (TREES, "S")),
            (lets, (book, TREES[0], "s"), (book, CAT, "s")), (fits, (book, book, "s"), (book, Book([]), "s")),
        ])

    def test_answers_are_new(self):
        book = Book([("he", [A])])
        for function, told in ((leaves, (TREES[1],)), (general, (TREES, "s")), (unified, ([(A, B)],)),
                               (fits, (book, book, "s"))):
            ahead_of_it = function(*told)
            found = function(*told)
            self.assert_unshared(found, [told, ahead_of_it])
            found.append(9)
            self.assertEqual(function(*told), ahead_of_it)
        part = ("odd", [1])
        with self.assertRaises(InvalidTree) as caught:
            leaves(behind(HE, part))
        caught.exception.value[1].append(2)
        self.assertEqual(part, ("odd", [1]))


if __name__ == "__main__":
    unittest.main()
