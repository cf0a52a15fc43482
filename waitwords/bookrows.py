"""The lists of words of a book, and the rows of kinds that they have. Nothing is checked here."""

from waitwords.papersearch import PaperSearch
from waitwords.texts import show_kind


def rows_of_words(book, words):
    """Return the list of all rows of kinds of a list of words, the last word's kinds going quickest."""
    rows = [[]]
    for word in words:
        kinds = book.kinds(word)
        rows = [row + [kind] for row in rows for kind in kinds]
    return rows


def lists_of_words(words, length):
    """Return the ascending list of all lists of so many of some ascending words."""
    found = [[]]
    for _ in range(length):
        found = [told + [word] for told in found for word in words]
    return found


def lists_up_to(words, most):
    """Return the list of all lists of one to so many of some ascending words, shorter ones first."""
    return [told for length in range(1, most + 1) for told in lists_of_words(words, length)]


def word_and_text(pair):
    """Return by what a tuple (word, kind) ascends."""
    return pair[0], show_kind(pair[1])


class ListSearch:
    """What was found out of lists of words and one kind, for any number of questions, and of books."""

    def __init__(self, kind):
        self.goal = kind
        self.search = PaperSearch()

    def row_comes(self, row):
        """Tell whether a row comes to the kind."""
        return self.search.paper_for_kinds(row, self.goal) is not None

    def list_comes(self, book, words):
        """Tell whether a list of words comes to the kind; one with a word that the book has not does not."""
        known = book.words()
        if not all([word in known for word in words]):
            return False
        for row in rows_of_words(book, words):
            if self.row_comes(row):
                return True
        return False

    def coming_rows(self, book, words):
        """Return the list of the rows of a list of words that come to the kind."""
        return [row for row in rows_of_words(book, words) if self.row_comes(row)]
