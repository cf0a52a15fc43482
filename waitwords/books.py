"""Books: words with their kinds, the rows that they let, and books made of others."""

from waitwords.bookchecks import check_asked, check_at_least, check_entries, check_known
from waitwords.bookrows import ListSearch, lists_of_words, lists_up_to, rows_of_words, word_and_text
from waitwords.errors import UnknownWord
from waitwords.kindchecks import check_kinds, check_letter, check_not_empty, check_single
from waitwords.kindparts import swap_letters, turn_kind
from waitwords.readingsearch import ReadingSearch
from waitwords.texts import show_reading


class Book:
    """Words with their kinds; a book never changes."""

    def __init__(self, entries):
        check_entries(entries)
        self._entries = [(word, list(kinds)) for word, kinds in entries]

    @property
    def entries(self):
        """Return the list of the tuples (word, kinds), as they were passed."""
        return [(word, list(kinds)) for word, kinds in self._entries]

    def words(self):
        """Return the ascending list of the words."""
        return sorted([word for word, _ in self._entries])

    def kinds(self, word):
        """Return the list of the kinds of a word, in their order."""
        for other, kinds in self._entries:
            if other == word:
                return list(kinds)
        raise UnknownWord(word)

    def __len__(self):
        return len([kind for _, kinds in self._entries for kind in kinds])

    def __eq__(self, other):
        return isinstance(other, Book) and _without_order(self) == _without_order(other)


def _without_order(book):
    """Return the entries of a book, the words ascending, and the kinds of each word, too."""
    return sorted([(word, sorted(kinds)) for word, kinds in book.entries])


def kind_rows(book, words):
    """Return the list of all rows of kinds of a list of words, the last word's kinds going quickest."""
    check_known(book, words)
    check_not_empty(words)
    return rows_of_words(book, words)


def comes(book, words, kind):
    """Tell whether a row of kinds of a list of words comes to a kind."""
    check_asked(book, words, kind)
    return ListSearch(kind).list_comes(book, words)


def readings_in(book, words, kind):
    """Return the list of the tuples (row, readings) of the rows of a list of words that have long readings."""
    check_asked(book, words, kind)
    check_single([one for word, kinds in book.entries if word in words for one in kinds] + [kind])
    search = ReadingSearch()
    pairs = [(row, search.readings_for_kinds(row, kind)) for row in rows_of_words(book, words)]
    return [(row, sorted(readings, key=show_reading)) for row, readings in pairs if readings]


def rows_of(book, length, kind):
    """Return the ascending list of the lists of so many words of a book that come to a kind."""
    check_kinds([kind])
    check_at_least(length, 1)
    search = ListSearch(kind)
    return [words for words in lists_of_words(book.words(), length) if search.list_comes(book, words)]


def first_row_of(book, kind, most):
    """Return the first list of at most so many words that comes to a kind, None if there is none."""
    check_kinds([kind])
    check_at_least(most, 1)
    search = ListSearch(kind)
    for words in lists_up_to(book.words(), most):
        if search.list_comes(book, words):
            return words
    return None


def first_unlike(one, other, kind, most):
    """Return the first list of at most so many words that comes to a kind by just one of two books, None if none."""
    check_kinds([kind])
    check_at_least(most, 1)
    search = ListSearch(kind)
    for words in lists_up_to(sorted(set(one.words() + other.words())), most):
        if search.list_comes(one, words) != search.list_comes(other, words):
            return words
    return None


def needless(book, kind, most):
    """Return the list of the tuples (word, kind) without each of which alone the same lists come to a kind.

    They ascend by their words and then by the kinds' texts.
    """
    check_kinds([kind])
    check_at_least(most, 1)
    search = ListSearch(kind)
    told = [(words, search.coming_rows(book, words)) for words in lists_up_to(book.words(), most)]
    pairs = [(word, one) for word, kinds in book.entries for one in kinds]
    found = [pair for pair in pairs if not any([_all_use(words, rows, pair) for words, rows in told])]
    return sorted(found, key=word_and_text)


def _all_use(words, rows, pair):
    """Tell whether a list of words has rows that come, and each of them has a word's kind for this word."""
    return len(rows) > 0 and all([pair in list(zip(words, row)) for row in rows])


def joined_books(one, other):
    """Return the book of all words of two books, ascending, with the kinds of the one ahead."""
    entries = []
    for word in sorted(set(one.words() + other.words())):
        kinds = [kind for book in (one, other) if word in book.words() for kind in book.kinds(word)]
        entries.append((word, _each_once(kinds)))
    return Book(entries)


def swapped_book(book, letter, other):
    """Return the book with a kind in the place of a letter in all kinds, of alike ones the first alone."""
    check_kinds([other])
    check_letter(letter)
    table = {letter: other}
    return Book([(word, _each_once([swap_letters(kind, table) for kind in kinds])) for word, kinds in book.entries])


def turned_book(book):
    """Return the book with the turned kinds."""
    return Book([(word, [turn_kind(kind) for kind in kinds]) for word, kinds in book.entries])


def _each_once(kinds):
    """Return the list of kinds without those that stood ahead."""
    return [kind for at, kind in enumerate(kinds) if kind not in kinds[:at]]
