"""books.py: what the class and the functions answer."""

import itertools
import random
import unittest

from bookways import slow_list_comes, slow_lists, some_books
from samples import A, AB, AS, B, BOTH, C, S, WITH, Checks, ahead, behind, laid_out
from slowways import slow_readings
from waitwords.books import Book, comes, first_row_of, first_unlike, joined_books, kind_rows, needless
from waitwords.books import readings_in, rows_of, swapped_book, turned_book
from waitwords.finding import readings_of
from waitwords.kinds import turned
from waitwords.texts import show_kind, show_reading

AA, TURN = behind(A, A), ahead(A, A)
FRONT = ("ahead", ("word",), ("word",))
LATE = ahead(AS, AS)
ENTRIES = [("he", [A]), ("sleeps", [AS]), ("soundly", [LATE])]
# Words in no order, kinds in no order, unlike numbers of kinds.
MANY = [("sees", [behind(AS, A), AS]), ("he", [A]), ("her", [A, behind(A, A), S]), ("and", [ahead(A, behind(A, A))])]


class Books(Checks, unittest.TestCase):

    def test_what_a_book_tells(self):
        for book in (Book(MANY), Book(entries=MANY)):
            self.assertEqual(book.entries, MANY)
            self.assertEqual(book.words(), ["and", "he", "her", "sees"])
            self.assert_answer([A, AA, S], book.kinds, word="her")
            self.assert_answer([behind(AS, A), AS], book.kinds, word="sees")
            self.assertEqual(len(book), 7)
            self.assertIs(type(book.entries), list)
            self.assert_unshared([book.entries, book.entries, book.words(), book.kinds("he")], MANY)

    def test_no_words(self):
        book = Book([])
        self.assertEqual([book.entries, book.words(), len(book)], [[], [], 0])
        self.assertTrue(book == Book(entries=[]))
        self.assertFalse(book == Book([("he", [A])]))

    def test_words_of_one_and_of_eight_letters(self):
        entries = [("z", [A]), ("abcdefgh", [B]), ("to", [WITH]), ("none", [A])]
        self.assertEqual(Book(entries).words(), ["abcdefgh", "none", "to", "z"])
        self.assertEqual(Book(entries).entries, entries)

    def test_changed_lists_change_no_book(self):
        entries = [("he", [A]), ("sleeps", [AS])]
        book = Book(entries)
        entries[0][1].append(B)
        entries.append(("odd", []))
        book.entries[1][1].append(B)
        book.entries.append(("odd", []))
        book.words().append("odd")
        book.kinds("he").append(B)
        self.assertEqual(book.entries, [("he", [A]), ("sleeps", [AS])])
        self.assertEqual([book.words(), book.kinds("he"), len(book)], [["he", "sleeps"], [A], 2])

    def test_equal_books(self):
        one = Book([("he", [A, B]), ("it", [AB, B, ahead(B, AB), WITH])])
        for entries in ([("it", [WITH, B, AB, ahead(B, AB)]), ("he", [B, A])],
                        [("he", [A, B]), ("it", [ahead(B, AB), WITH, B, AB])]):
            self.assertTrue(one == Book(entries))
            self.assertFalse(one != Book(entries))
        for entries in ([("he", [A, B])], [("he", [A]), ("it", [AB, B, ahead(B, AB), WITH])],
                        [("he", [A, C]), ("it", [AB, B, ahead(B, AB), WITH])],
                        [("it", [A, B]), ("he", [AB, B, ahead(B, AB), WITH])],
                        [("he", [A, B]), ("is", [AB, B, ahead(B, AB), WITH])],
                        [("he", [A, B]), ("it", [AB, B, ahead(B, AB), WITH]), ("z", [A])]):
            self.assertFalse(one == Book(entries))
            self.assertTrue(one != Book(entries))

    def test_equal_to_nothing_else(self):
        for other in (ENTRIES, None, 0, "", (), object(), Book, dict(ENTRIES)):
            self.assertFalse(Book(ENTRIES) == other)
            self.assertFalse(other == Book(ENTRIES))
            self.assertTrue(Book(ENTRIES) != other)


class Lists(Checks, unittest.TestCase):

    def test_kind_rows(self):
        book = Book(MANY)
        self.assert_answer([[A]], kind_rows, book=book, words=["he"])
        self.assert_answer([[A], [AA], [S]], kind_rows, book=book, words=["her"])
        self.assert_answer([[A, A], [A, AA], [A, S]], kind_rows, book=book, words=["he", "her"])
        self.assert_answer([[behind(AS, A), A], [behind(AS, A), AA], [behind(AS, A), S], [AS, A], [AS, AA], [AS, S]],
                           kind_rows, book=book, words=["sees", "her"])
        self.assert_answer([[one, other] for one in (A, AA, S) for other in (A, AA, S)], kind_rows,
                           book=book, words=["her", "her"])
        rows = kind_rows(Book([("to", [A, B]), ("be", [S])]), ["to", "be", "to", "to"])
        self.assertEqual(rows, [[one, S, two, three] for one in (A, B) for two in (A, B) for three in (A, B)])

    def test_comes(self):
        book = Book(ENTRIES)
        self.assert_answer(True, comes, book=book, words=["he", "sleeps"], kind=S)
        self.assert_answer(False, comes, book=book, words=["sleeps", "he"], kind=S)
        self.assert_answer(True, comes, book=book, words=["he"], kind=A)
        self.assert_answer(True, comes, book=book, words=["he"], kind=behind(S, AS))
        self.assert_answer(True, comes, book=book, words=["he", "sleeps", "soundly", "soundly"], kind=S)
        self.assert_answer(False, comes, book=book, words=["he", "he"], kind=A)
        self.assert_answer(True, comes, book=book, words=["he", "he"], kind=("with", A, A))
        # The same word stands for two of its kinds.
        self.assert_answer(True, comes, book=Book([("do", [behind(S, A), A])]), words=["do", "do"], kind=S)
        self.assert_answer(False, comes, book=Book([("do", [A])]), words=["do", "do"], kind=S)
        self.assert_answer(True, comes, book=Book(MANY), words=["he", "and", "her", "sees"], kind=S)
        self.assert_answer(True, comes, book=Book(MANY), words=["he", "sees", "her"], kind=S)

    def test_readings_in(self):
        book = Book(ENTRIES)
        self.assert_answer([([A, AS], [FRONT])], readings_in, book=book, words=["he", "sleeps"], kind=S)
        self.assert_answer([], readings_in, book=book, words=["sleeps", "he"], kind=S)
        self.assert_answer([([A], [("word",)])], readings_in, book=book, words=["he"], kind=A)
        both = Book([("do", [TURN, behind(A, A), A])])
        self.assert_answer([([AA, A], [BOTH]), ([A, TURN], [FRONT])], readings_in, book=both, words=["do", "do"], kind=A)
        three = readings_in(both, ["do", "do", "do"], A)
        self.assertEqual([row for row, _ in three], [[AA, AA, A], [AA, A, TURN], [A, TURN, TURN]])
        self.assertEqual([len(readings) for _, readings in three], [1, 2, 1])
        for row, readings in three:
            self.assertEqual(readings, readings_of(row, A))

    def test_readings_in_asks_single_kinds_of_the_words_alone(self):
        book = Book([("odd", [WITH]), ("he", [A])])
        self.assert_answer([([A], [("word",)])], readings_in, book=book, words=["he"], kind=A)

    def test_rows_of(self):
        book = Book(ENTRIES)
        self.assert_answer([["he", "sleeps", "soundly"]], rows_of, book=book, length=3, kind=S)
        self.assert_answer([["he"]], rows_of, book=book, length=1, kind=A)
        self.assert_answer([], rows_of, book=book, length=1, kind=S)
        self.assert_answer([["sleeps", "soundly"]], rows_of, book=book, length=2, kind=AS)
        self.assert_answer([], rows_of, book=Book([]), length=2, kind=S)
        self.assert_answer([["be", "be"], ["be", "do"], ["do", "be"], ["do", "do"]], rows_of,
                           book=Book([("do", [A, AA]), ("be", [AA, A])]), length=2, kind=A)

    def test_first_row_of(self):
        book = Book(ENTRIES)
        self.assert_answer(["sleeps"], first_row_of, book=book, kind=AS, most=2)
        self.assert_answer(["he", "sleeps"], first_row_of, book=book, kind=S, most=3)
        self.assert_answer(None, first_row_of, book=book, kind=S, most=1)
        self.assert_answer(["he"], first_row_of, book=book, kind=behind(S, AS), most=1)
        self.assert_answer(None, first_row_of, book=Book([]), kind=S, most=3)
        self.assert_answer(["be"], first_row_of, book=Book([("do", [A]), ("be", [AA, A])]), kind=A, most=3)
        self.assert_answer(["be", "do"], first_row_of, book=Book([("do", [A]), ("be", [behind(B, A)])]), kind=B, most=2)

    def test_first_unlike(self):
        book = Book(ENTRIES)
        short = Book(ENTRIES[:2])
        self.assert_answer(None, first_unlike, one=book, other=Book(ENTRIES[::-1]), kind=S, most=3)
        self.assert_answer(["he", "sleeps", "soundly"], first_unlike, one=book, other=short, kind=S, most=3)
        self.assert_answer(["he", "sleeps", "soundly"], first_unlike, one=short, other=book, kind=S, most=3)
        self.assert_answer(None, first_unlike, one=short, other=book, kind=S, most=2)
        self.assert_answer(["b"], first_unlike, one=Book([("c", [A])]), other=Book([("b", [A])]), kind=A, most=1)
        self.assert_answer(["b"], first_unlike, one=Book([("b", [A])]), other=Book([("c", [A])]), kind=A, most=1)
        self.assert_answer(None, first_unlike, one=Book([("b", [B])]), other=Book([("c", [B])]), kind=A, most=3)
        self.assert_answer(None, first_unlike, one=Book([]), other=Book([("c", [B])]), kind=A, most=2)
        self.assert_answer(["c"], first_unlike, one=Book([]), other=Book([("c", [A])]), kind=A, most=2)
        # Unlike books that let the same lists.
        self.assert_answer(None, first_unlike, one=Book([("b", [A])]), other=Book([("b", [A, B])]), kind=A, most=3)

    def test_words_of_either_book_ascend(self):
        for words in ("d c b a", "z a y b", "he she it we", "q p r o", "b a d c", "to no on so", "c a b d", "x w z y"):
            names = words.split()
            one = Book([(name, [A]) for name in names[:2]])
            other = Book([(name, [A]) for name in names[2:]])
            self.assert_answer([min(names)], first_unlike, one=one, other=other, kind=A, most=2)
            self.assertEqual(joined_books(one, other).entries, [(name, [A]) for name in sorted(names)])

    def test_against_all_lists(self):
        books = some_books(60) + some_books(30, letters="a") + some_books(20, 3, "ab", ("behind", "ahead", "with"))
        chance = random.Random(62)
        counts = [0, 0]
        for number, book in enumerate(books):
            kind = chance.choice([A, A, B, AA, AB, ahead(A, B)])
            told = slow_lists(book, kind, 3)
            for length in (1, 2, 3):
                self.assertEqual(rows_of(book, length, kind), [words for words in told if len(words) == length])
            for most in (1, 2, 3):
                firsts = [words for words in told if len(words) <= most]
                self.assertEqual(first_row_of(book, kind, most), firsts[0] if firsts else None)
            other = books[number - 1]
            words = {word for word, _ in book.entries + other.entries}
            lists = [list(one) for many in (1, 2, 3) for one in itertools.product(sorted(words), repeat=many)]
            unlike = [one for one in lists if slow_list_comes(book, one, kind) != slow_list_comes(other, one, kind)]
            self.assertEqual(first_unlike(book, other, kind, 3), unlike[0] if unlike else None)
            counts[len(unlike) > 0] += 1
            for one in chance.sample(lists, min(6, len(lists))):
                if set(one) <= set(book.words()):
                    self.assertIs(comes(book, one, kind), slow_list_comes(book, one, kind))
        self.assertGreater(min(counts), 5)

    def test_readings_in_against_all_rows(self):
        for book in some_books(40):
            for words in itertools.product(book.words(), repeat=2):
                for kind in (A, AB):
                    told = []
                    for row in itertools.product(*[book.kinds(word) for word in words]):
                        readings = sorted(slow_readings(row, kind), key=show_reading)
                        told += [(list(row), readings)] if readings else []
                    self.assertEqual(readings_in(book, list(words), kind), told)


class Needless(Checks, unittest.TestCase):

    def test_needless(self):
        book = Book(ENTRIES)
        self.assert_answer([("soundly", LATE)], needless, book=book, kind=S, most=2)
        self.assert_answer([], needless, book=book, kind=S, most=3)
        self.assert_answer([("sleeps", AS), ("soundly", LATE)], needless, book=book, kind=A, most=3)
        self.assert_answer([], needless, book=Book([]), kind=A, most=3)
        # Each of both alone is needless, not both.
        lift = behind(B, ahead(A, B))
        self.assert_answer([("do", lift), ("do", A)], needless, book=Book([("do", [A, lift])]), kind=lift, most=1)
        self.assert_answer([("do", lift)], needless, book=Book([("do", [A, lift])]), kind=A, most=1)
        # Without its only kind a word is unknown.
        self.assert_answer([], needless, book=Book([("do", [A])]), kind=A, most=3)
        self.assert_answer([("do", A)], needless, book=Book([("do", [A])]), kind=B, most=3)

    def test_in_order(self):
        book = Book([("we", [B, AB]), ("it", [C, B, AB])])
        self.assert_answer([("it", AB), ("it", B), ("it", C), ("we", AB), ("we", B)], needless, book=book, kind=S, most=2)

    def test_one_word_twice(self):
        book = Book([("do", [AA, A, TURN])])
        # A list of it alone comes by the kind A; with two of it either AA or TURN will do.
        self.assert_answer([("do", AA), ("do", TURN)], needless, book=book, kind=A, most=3)
        self.assert_answer([("do", TURN)], needless, book=Book([("do", [TURN, A])]), kind=A, most=1)
        self.assert_answer([], needless, book=Book([("do", [TURN, A])]), kind=A, most=2)

    def test_against_books_without_one(self):
        found = 0
        chance = random.Random(63)
        for book in some_books(60) + some_books(40, letters="a"):
            kind = chance.choice([A, A, AA, AB])
            most = chance.choice([1, 2, 3])
            told = []
            whole = slow_lists(book, kind, most, book.words())
            for word, kinds in book.entries:
                for one in kinds:
                    left = [(other, [k for k in ks if (other, k) != (word, one)]) for other, ks in book.entries]
                    less = Book([(other, ks) for other, ks in left if ks])
                    if slow_lists(less, kind, most, book.words()) == whole:
                        told.append((word, one))
            told.sort(key=lambda pair: (pair[0], show_kind(pair[1])))
            self.assertEqual(needless(book, kind, most), told)
            found += 0 < len(told) < len(book)
        self.assertGreater(found, 20)


class Made(Checks, unittest.TestCase):

    def test_joined_books(self):
        one = Book([("we", [A, B]), ("he", [AB])])
        other = Book([("it", [WITH]), ("we", [C, B, S]), ("a", [A])])
        self.assert_answer(Book([("a", [A]), ("he", [AB]), ("it", [WITH]), ("we", [A, B, C, S])]), joined_books,
                           one=one, other=other)
        self.assert_answer(Book([("a", [A]), ("he", [AB]), ("it", [WITH]), ("we", [C, B, S, A])]), joined_books,
                           one=other, other=one)
        self.assert_answer(Book([("he", [AB]), ("we", [A, B])]), joined_books, one=one, other=Book([]))
        self.assert_answer(Book([("he", [AB]), ("we", [A, B])]), joined_books, one=Book([]), other=one)
        self.assert_answer(Book([("he", [AB]), ("we", [A, B])]), joined_books, one=one, other=one)
        self.assert_answer(Book([]), joined_books, one=Book([]), other=Book([]))

    def test_swapped_book(self):
        book = Book([("we", [A, B, AB]), ("he", [WITH, C])])
        self.assert_answer(Book([("we", [S, B, behind(S, B)]), ("he", [("with", S, B), C])]), swapped_book,
                           book=book, letter="a", other=S)
        self.assert_answer(Book([("we", [B, behind(B, B)]), ("he", [("with", B, B), C])]), swapped_book,
                           book=book, letter="a", other=B)
        self.assert_answer(Book([("we", [A, behind(A, A)]), ("he", [("with", A, A), C])]), swapped_book,
                           book=book, letter="b", other=A)
        self.assert_answer(Book([("we", [AB, B, behind(AB, B)]), ("he", [("with", AB, B), C])]), swapped_book,
                           book=book, letter="a", other=AB)
        self.assert_answer(book, swapped_book, book=book, letter="z", other=A)
        self.assert_answer(book, swapped_book, book=book, letter="a", other=A)
        self.assert_answer(Book([]), swapped_book, book=Book([]), letter="a", other=A)
        self.assert_answer(Book([("do", [B, A])]), swapped_book, book=Book([("do", [B, C, A])]), letter="c", other=B)

    def test_turned_book(self):
        book = Book([("we", [AB, B, WITH]), ("he", [AS])])
        self.assert_answer(Book([("we", [ahead(B, A), B, ("with", B, A)]), ("he", [behind(S, A)])]), turned_book, book=book)
        self.assert_answer(Book([]), turned_book, book=Book([]))
        for book in some_books(20, texts=("behind", "ahead", "with")):
            found = turned_book(book)
            self.assertEqual(found.entries, [(word, [turned(kind) for kind in kinds]) for word, kinds in book.entries])
            self.assertEqual(laid_out(turned_book(found)), laid_out(book))
            for words in rows_of(book, 2, AB):
                self.assertTrue(comes(found, words[::-1], turned(AB)))


if __name__ == "__main__":
    unittest.main()
