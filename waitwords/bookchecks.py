"""The checks of words and books that the functions of the program share."""

from waitwords.errors import InvalidBook, InvalidNumber, InvalidWord, UnknownWord
from waitwords.kindchecks import check_kinds, check_not_empty
from waitwords.kindparts import is_letter

# How many letters a word has at most.
LONGEST = 8


def is_word(text):
    """Tell whether a text is a word: one to eight letters from a to z."""
    return 1 <= len(text) <= LONGEST and all([is_letter(sign) for sign in text])


def check_word(text):
    """Raise InvalidWord for a text that is no word."""
    if not is_word(text):
        raise InvalidWord(text)


def check_entries(entries):
    """Raise the errors of the entries of a book."""
    words = [word for word, _ in entries]
    for at, word in enumerate(words):
        if not is_word(word) or word in words[:at]:
            raise InvalidWord(word)
    check_kinds([kind for _, kinds in entries for kind in kinds])
    for word, kinds in entries:
        if not kinds or any([kind in kinds[:at] for at, kind in enumerate(kinds)]):
            raise InvalidBook(word)


def check_known(book, words):
    """Raise UnknownWord for the first word that is not in a book."""
    known = book.words()
    for word in words:
        if word not in known:
            raise UnknownWord(word)


def check_asked(book, words, kind):
    """Raise the errors of a list of words of a book, and of a kind that it is asked to come to."""
    check_known(book, words)
    check_kinds([kind])
    check_not_empty(words)


def check_at_least(number, least):
    """Raise InvalidNumber for a number below the least one."""
    if number < least:
        raise InvalidNumber(number)
