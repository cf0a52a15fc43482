"""Books and trees, and slow, plain second ways to what they tell, for the tests."""

import itertools
import random

from slowways import kind_of_size, slow_comes
from waitwords.books import Book


def some_books(many, total=4, letters="ab", texts=("behind", "ahead"), words=("ab", "it", "we", "z")):
    """A list of books with kinds of few letters, always the same ones."""
    chance = random.Random(61)
    found = []
    for _ in range(many):
        entries = []
        for word in chance.sample(words, chance.randrange(1, len(words) + 1)):
            kinds = []
            for _ in range(chance.randrange(1, 3)):
                kind = kind_of_size(chance, chance.choice([1, 1, 2, 2, 3, total]), letters, texts)
                if kind not in kinds:
                    kinds.append(kind)
            entries.append((word, kinds))
        found.append(Book(entries))
    return found


def slow_list_comes(book, words, kind):
    """Whether a list of words comes to a kind; one with an unknown word does not."""
    table = dict(book.entries)
    if any(word not in table for word in words):
        return False
    return any(slow_comes(row, kind) for row in itertools.product(*[table[word] for word in words]))


def slow_lists(book, kind, most, words=None):
    """All lists of at most so many words that come to a kind, shorter ones first, then ascending."""
    words = sorted(words or [word for word, _ in book.entries])
    return [list(told) for length in range(1, most + 1) for told in itertools.product(words, repeat=length)
            if slow_list_comes(book, told, kind)]


def any_tree(chance, many, words):
    """A tree of so many leaves."""
    if many == 1:
        return ("leaf", chance.choice(words))
    left = chance.randrange(1, many)
    return (chance.choice(["behind", "ahead"]), any_tree(chance, left, words), any_tree(chance, many - left, words))
