"""books.py: what the class and the functions refuse, and which error comes first."""

import unittest

from samples import A, AB, AS, B, DEEP_WITH, ODD, S, WITH, Checks, ahead, behind
from waitwords.books import Book, comes, first_row_of, first_unlike, kind_rows, needless
from waitwords.books import readings_in, rows_of, swapped_book
from waitwords.errors import InvalidBook, InvalidKind, InvalidLetter, InvalidNumber, InvalidRow, InvalidWord
from waitwords.errors import NotSingle, UnknownWord

BAD, WORSE = ("plain", "B"), ("plain", "")
WRONG_WORDS = ["", "abcdefghi", "He", "he she", "he1", " ", "he ", "a-b", "{", "`", "\u00e9"]
WRONG_LETTERS = ["", "A", "ab", "1", " ", "{", "\u00e9"]
BOOK = Book([("he", [A]), ("sleeps", [AS]), ("odd", [WITH, DEEP_WITH])])


class Entries(Checks, unittest.TestCase):

    def test_invalid_word(self):
        for word in WRONG_WORDS:
            self.assert_refused(InvalidWord, word, Book, [(word, [A])])
            self.assert_refused(InvalidWord, word, Book, entries=[("he", [BAD]), ("she", []), (word, []), ("HE", [])])
        self.assert_refused(InvalidWord, "he", Book, [("it", []), ("he", [A]), ("a", [BAD]), ("he", [B]), ("HE", [A])])
        self.assert_refused(InvalidWord, "", Book, [("he", [A]), ("", [A]), ("he", [A])])

    def test_invalid_kind(self):
        self.assert_refused(InvalidKind, BAD, Book, [("he", [A, A]), ("it", []), ("a", [B, behind(A, BAD), WORSE])])
        self.assert_refused(InvalidKind, WORSE, Book, [("he", [WORSE]), ("it", [BAD])])
        self.assert_refused(InvalidKind, ODD, Book, entries=[("he", [A, ODD])])

    def test_invalid_book(self):
        self.assert_refused(InvalidBook, "he", Book, [("he", [])])
        self.assert_refused(InvalidBook, "it", Book, [("he", [A]), ("it", []), ("a", [A, A])])
        self.assert_refused(InvalidBook, "a", Book, [("he", [A]), ("a", [AB, B, AB]), ("it", [])])
        self.assert_refused(InvalidBook, "a", Book, entries=[("he", [A, B]), ("a", [A, A])])

    def test_unknown_word_of_a_book(self):
        for word in ("she", "", "He", "sleep", "odds"):
            self.assert_refused(UnknownWord, word, BOOK.kinds, word)
            self.assert_refused(UnknownWord, word, BOOK.kinds, word=word)
            self.assert_refused(UnknownWord, word, Book([]).kinds, word)


class Lists(Checks, unittest.TestCase):

    def test_unknown_word(self):
        self.assert_refused(UnknownWord, "she", kind_rows, BOOK, ["he", "she", "it"])
        self.assert_refused(UnknownWord, "", kind_rows, book=BOOK, words=[""])
        for function in (comes, readings_in):
            self.assert_refused(UnknownWord, "she", function, BOOK, ["odd", "she", "it"], BAD)
            self.assert_refused(UnknownWord, "He", function, book=BOOK, words=["He"], kind=A)
            self.assert_refused(UnknownWord, "he", function, Book([]), ["he"], A)

    def test_invalid_kind(self):
        for function in (comes, readings_in):
            self.assert_refused(InvalidKind, BAD, function, BOOK, [], behind(A, BAD))
            self.assert_refused(InvalidKind, ODD, function, book=BOOK, words=["odd"], kind=ODD)
        self.assert_refused(InvalidKind, BAD, rows_of, BOOK, 0, BAD)
        self.assert_refused(InvalidKind, ODD, rows_of, book=BOOK, length=2, kind=ODD)
        for function in (first_row_of, needless):
            self.assert_refused(InvalidKind, BAD, function, BOOK, ahead(BAD, WORSE), 0)
            self.assert_refused(InvalidKind, ODD, function, book=BOOK, kind=ODD, most=1)
        self.assert_refused(InvalidKind, BAD, first_unlike, BOOK, BOOK, ahead(BAD, WORSE), 0)
        self.assert_refused(InvalidKind, ODD, first_unlike, one=BOOK, other=Book([]), kind=ODD, most=1)
        self.assert_refused(InvalidKind, BAD, swapped_book, BOOK, "A", behind(BAD, WORSE))
        self.assert_refused(InvalidKind, ODD, swapped_book, book=Book([]), letter="a", other=ODD)

    def test_no_words(self):
        self.assert_refused(InvalidRow, [], kind_rows, BOOK, [])
        self.assert_refused(InvalidRow, [], kind_rows, book=Book([]), words=[])
        for function in (comes, readings_in):
            self.assert_refused(InvalidRow, [], function, BOOK, [], WITH)
            self.assert_refused(InvalidRow, [], function, book=Book([]), words=[], kind=A)

    def test_not_single(self):
        self.assert_refused(NotSingle, WITH, readings_in, BOOK, ["he", "odd"], DEEP_WITH)
        self.assert_refused(NotSingle, DEEP_WITH, readings_in, BOOK, ["he"], DEEP_WITH)
        self.assert_refused(NotSingle, WITH, readings_in, book=BOOK, words=["odd"], kind=A)
        # In the book's order, not in that of the list.
        book = Book([("z", [A]), ("b", [B, DEEP_WITH]), ("a", [WITH])])
        self.assert_refused(NotSingle, DEEP_WITH, readings_in, book, ["a", "b"], WITH)
        self.assert_refused(NotSingle, WITH, readings_in, book, ["a", "z"], DEEP_WITH)
        self.assertFalse(comes(book, ["a", "b"], A))

    def test_invalid_number(self):
        for number in (0, -1, -7):
            self.assert_refused(InvalidNumber, number, rows_of, BOOK, number, A)
            self.assert_refused(InvalidNumber, number, rows_of, book=Book([]), length=number, kind=A)
            for function in (first_row_of, needless):
                self.assert_refused(InvalidNumber, number, function, BOOK, A, number)
                self.assert_refused(InvalidNumber, number, function, book=BOOK, kind=A, most=number)
            self.assert_refused(InvalidNumber, number, first_unlike, BOOK, BOOK, A, number)
            self.assert_refused(InvalidNumber, number, first_unlike, one=BOOK, other=BOOK, kind=A, most=number)

    def test_invalid_letter(self):
        for text in WRONG_LETTERS:
            self.assert_refused(InvalidLetter, text, swapped_book, BOOK, text, A)
            self.assert_refused(InvalidLetter, text, swapped_book, book=Book([]), letter=text, other=WITH)


class Rest(Checks, unittest.TestCase):

    def test_behind_a_refused_call_all_is_as_ahead(self):
        words = ["he", "sleeps"]
        self.assert_as_ahead([
            (Book, ([("he", [A])],), ([("he", [])],)), (BOOK.kinds, ("odd",), ("she",)),
            (kind_rows, (BOOK, words), (BOOK, [])), (comes, (BOOK, words, S), (BOOK, ["she"], S)),
            (readings_in, (BOOK, words, S), (BOOK, ["odd"], S)), (rows_of, (BOOK, 2, S), (BOOK, 0, S)),
            (first_row_of, (BOOK, S, 2), (BOOK, S, 0)), (first_unlike, (BOOK, Book([]), S, 2), (BOOK, BOOK, ODD, 2)),
            (needless, (BOOK, S, 2), (BOOK, S, 0)), (swapped_book, (BOOK, "a", B), (BOOK, "A", B)),
        ])

    def test_answers_are_new(self):
        calls = [(kind_rows, (BOOK, ["he", "odd"])), (readings_in, (BOOK, ["he", "sleeps"], S)), (rows_of, (BOOK, 2, S)),
                 (first_row_of, (BOOK, S, 2)), (first_unlike, (BOOK, Book([]), S, 2)), (needless, (BOOK, S, 2))]
        for function, told in calls:
            ahead_of_it = function(*told)
            found = function(*told)
            self.assert_unshared(found, [told, ahead_of_it])
            if isinstance(found[0], list):
                found[0].append(7)
            found.append(7)
            self.assertEqual(function(*told), ahead_of_it)
        self.assertEqual(BOOK.entries, [("he", [A]), ("sleeps", [AS]), ("odd", [WITH, DEEP_WITH])])


if __name__ == "__main__":
    unittest.main()
