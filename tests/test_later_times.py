"""How long the slowest calls of the later sections take, within their bounds."""

import random
import unittest

import test_times
from bookways import any_tree
from samples import A, B, ahead, behind
from slowways import kind_of_size, some_papers
from test_times import AA, ROWS, TURN
from waitwords import books, chains, gaps, learning, readers, rules, spans, texts
from waitwords.books import Book
from waitwords.desks import Desk
from waitwords.kinds import word
from waitwords.papers import has_cut, shown, turned_paper

WORDS = ["he", "i", "it", "she", "we", "z"]


def all_of_size(many, texts):
    if many == 1:
        return [A]
    return [(text, one, other) for left in range(1, many) for one in all_of_size(left, texts)
            for other in all_of_size(many - left, texts) for text in texts]


SINGLE = ("behind", "ahead")
FOUR = all_of_size(4, SINGLE)
THREE = all_of_size(3, SINGLE)
SMALL = [A, AA, TURN]


class LaterTimes(unittest.TestCase):

    check = test_times.Times.check

    def test_chains(self):
        chance = random.Random(111)
        tried = 0
        while tried < 60:
            one, other = [kind_of_size(chance, 5, "ab"[:1 + tried % 2], SINGLE + ("with",)) for _ in range(2)]
            self.check(chains.are_joined, one, other)
            if word([one]) == word([other]):
                tried += 1
                steps = self.check(chains.chain, one, other)
                self.check(chains.chain_kinds, one, steps)
                self.check(chains.chain_kinds, other, self.check(chains.back_chain, steps))
                self.check(chains.turned_chain, steps)
                for _, paper in steps:
                    for function in (shown, has_cut, turned_paper):
                        self.check(function, paper)
        for paper in some_papers(100):
            row, kind = shown(paper)
            if len(row) == 1:
                steps = [(1, paper), (-1, paper)] * 6
                self.check(chains.chain_kinds, row[0], steps)
                self.check(chains.back_chain, steps)
                self.check(chains.turned_chain, steps)
        self.check(chains.plain_form, [("a", 1)] * 14, "b")

    def test_spans(self):
        one, _ = self.check(spans.text_span, "a", 13)
        many, _ = self.check(spans.text_span, "ab", 2)
        two = spans.Span([[0, 1], [1, 0]])
        self.check(spans.turned_span, one)
        self.check(spans.beside_span, many, two)
        self.check(spans.Span, [[(i + j) % 14 for j in range(14)] for i in range(14)])
        ring = spans.Span([[(i + j) % 14 for j in range(14)] for i in range(14)])
        self.check(spans.keeps_span, ring, ring, [3 * i % 14 for i in range(14)])
        lots = [("a", list(range(14))), ("b", list(range(0, 14, 2)))]
        for row, kind in ROWS:
            for span in (one, ring):
                self.check(spans.first_outside, span, row, kind, lots)
                self.check(spans.row_lot, span, row, lots)
                self.check(spans.lot_of, span, kind, lots)

    def test_books(self):
        chance = random.Random(112)
        for number in range(60):
            kind = chance.choice(SMALL)
            big = Book([(name, chance.sample(THREE + SMALL if number % 2 else THREE, 3)) for name in WORDS])
            told = [chance.choice(WORDS) for _ in range(4)]
            self.check(Book, big.entries)
            self.check(books.kind_rows, big, told)
            self.check(books.comes, big, told, kind)
            self.check(books.readings_in, big, told, kind)
            self.check(rules_or_none, big)
            small = Book([(name, chance.sample(FOUR, 2)) for name in WORDS[:4]])
            other = Book([(name, chance.sample(FOUR + THREE, 2)) for name in WORDS[:4]])
            self.check(books.rows_of, small, 3, kind)
            self.check(books.first_row_of, small, kind, 3)
            self.check(books.first_unlike, small, small, kind, 3)
            self.check(books.needless, small, kind, 3)
            self.check(books.needless, other, kind, 3)
            self.check(books.turned_book, big)
            self.check(books.swapped_book, big, "a", B)
            self.check(books.joined_books, big, big)
            self.check(gaps.completed, small, WORDS[:1], kind, 2)
            self.check(gaps.gaps, small, WORDS[:2], kind)

    def test_a_word_of_which_all_lists_come(self):
        book = Book([(name, [behind(A, A), ahead(A, A)]) for name in WORDS[:3]] + [("z", [A, behind(AA, A)])])
        for kind in SMALL:
            self.check(books.needless, book, kind, 3)
            self.check(books.rows_of, book, 3, kind)
            self.check(books.comes, book, ["he", "he", "z", "i"], kind)
            self.check(books.readings_in, book, ["he", "he", "z", "i"], kind)

    def test_rules(self):
        chance = random.Random(113)
        for number in range(12):
            entries = []
            for name in WORDS:
                kinds = []
                while len(kinds) < 3:
                    kind = ("plain", chance.choice("abcd"[:1 + number % 4]))
                    for _ in range(chance.choice([0, 2, 6, 6])):
                        wanted = ("plain", chance.choice("abcd"[:1 + number % 4]))
                        kind = behind(kind, wanted) if chance.random() < 0.5 else ahead(wanted, kind)
                    kinds += [kind] if kind not in kinds else []
                entries.append((name, kinds))
            book = Book(entries)
            counts = self.check(rules.numbers, book, "a", 30)
            for part in (0, 1, 2):
                self.check(rules.nth_list, book, "a", 30, counts[30] * part // 2)
            for function in (rules.least_length, rules.is_endless, rules.greatest_length, rules.useless):
                self.check(function, book, "a")

    def test_fillers(self):
        chance = random.Random(114)
        pool = THREE + SMALL + [("with", A, A), ("with", A, AA)]
        for _ in range(60):
            row = [chance.choice(pool) for _ in range(3)]
            for at in range(4):
                self.check(gaps.fillers, row, at, chance.choice(SMALL), chance.choice(["a", "abc"]), 3)

    def test_learning(self):
        chance = random.Random(115)
        plain = [("plain", letter) for letter in "abcdefg"]
        pairs = [(one, behind(behind(other, other), behind(other, other))) for one, other in zip(plain, plain[1:])]
        self.check(learning.unified, pairs)
        self.check(learning.unified, pairs[::-1])
        # Two letters that grow alike, and are alike then.
        twice = [(one, behind(other, other)) for one, other in zip(plain[0:2], plain[1:3])]
        twice += [(one, behind(other, other)) for one, other in zip(plain[4:6], plain[5:7])]
        self.check(learning.unified, twice + [(plain[0], plain[4])])
        for number in range(100):
            trees = [any_tree(chance, 4, ["a", "b", "c", "to", "we"][:2 + number % 4]) for _ in range(4)]
            self.check(learning.least_book, trees, "s")
            self.check(learning.general, trees, "s")
            big = any_tree(chance, 8, WORDS)
            book = Book([(name, chance.sample(THREE + SMALL, 3)) for name in WORDS])
            self.check(learning.lets, book, big, "a")
            least = learning.least_book([any_tree(chance, 8, ["q" + letter for letter in "abcdefgh"])], "s")
            if least is not None:
                self.check(learning.fits, least, least, "s")

    def test_readers(self):
        kind = "(" * 40 + "a" + "/b)" * 40
        long = " , ".join(["(a/b)"] * 375)
        self.check(readers.read_kind, kind)
        self.check(readers.read_row, long)
        self.check(readers.read_reading, "(" * 40 + "*" + " > *)" * 40)
        self.check(readers.read_reading, ("b[" + "((((a/b)/b)/b)/b)" + "](") * 18 + "*" + " > *)" * 18)
        self.check(readers.read_paper, "part[0;" * 39 + "same[a]" + "]" * 39)
        self.check(readers.read_tree, "(" * 40 + "abcdefgh" + " < abcdefgh)" * 40)
        names = ["w" + one + other for one in "abcdefghijklmnop" for other in "abcdefghijklmnop"]
        self.check(readers.read_book, " ; ".join(name + ": (a/b)" for name in names[:200]))
        for text in ("(" * 3000, ")" * 3000, "a" * 3000, "b[" * 1500, "b[a]" * 750, "join[" * 600, "; " * 1500, "*" * 3000,
                     "same[" * 600, "0" * 3000, " > " * 1000, "he: a ; " * 375, "(a/b)" * 600, "]" * 3000, "b[a" * 1000):
            for function in (readers.read_kind, readers.read_row, readers.read_reading, readers.read_paper,
                             readers.read_tree, readers.read_book):
                self.check(refused, function, text)
        self.check(texts.show_row, [AA] * 375)

    def test_desks(self):
        desk = Desk(Book([(name, [A, AA, TURN]) for name in WORDS]))
        letters = "abcdefghijklmnopqrstuvwxyz"
        names = [one + other for one in letters for other in letters][:150]
        for name in names:
            self.check(desk.put, name, AA)
        for name in names[:149]:
            self.check(desk.branch, name)
        for question in ("book", "names", "forks", "same aa", "show aa", "comes aa ab ac to aa", "count aa ab ac to aa",
                         "lets he we i z to aa"):
            self.check(desk.order, question)
        self.check(desk.order, "switch aa")
        while len(desk):
            self.check(desk.undo)
        self.assertEqual([desk.names(), desk.forks()], [[], ["main"]])


def rules_or_none(book):
    """What a book that need not be flat is asked for its rules."""
    try:
        return rules.rules(book)
    except ValueError:
        return None


def refused(function, text):
    try:
        function(text)
    except ValueError:
        return None
    return text


if __name__ == "__main__":
    unittest.main()
