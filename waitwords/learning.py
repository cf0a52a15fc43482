"""Learning: the least books that let told trees, and kinds for letters that make kinds alike."""

from waitwords.bookchecks import check_known
from waitwords.books import Book
from waitwords.errors import InvalidBook
from waitwords.kindchecks import check_kinds, check_letter
from waitwords.kindparts import pairs_of_parts
from waitwords.showing import put_together
from waitwords.treeparts import check_trees, general_pairs, indexes_in_tree, leaf_words
from waitwords.unifying import bindings, settled
from waitwords.walks import folded


def leaves(tree):
    """Return the list of the words of a tree, from the left."""
    check_trees([tree])
    return leaf_words(tree)


def general(trees, letter):
    """Return the list of the tuples (word, kind) of the leaves of trees, leaf by leaf, tree by tree."""
    check_trees(trees)
    check_letter(letter)
    return general_pairs(trees, letter)


def unified(pairs):
    """Return the list of the tuples (letter, kind) that make the kinds of each pair alike, None if there is none."""
    check_kinds([kind for pair in pairs for kind in pair])
    found = bindings(pairs, "")
    if found is None:
        return None
    return [(letter, settled(("plain", letter), found)) for letter in sorted(found)]


def least_book(trees, letter):
    """Return the book with one kind for each word that lets told trees be a letter, None if there is none."""
    first = {}
    pairs = []
    for word, kind in general(trees, letter):
        pairs.append((first.setdefault(word, kind), kind))
    found = bindings(pairs, letter)
    if found is None:
        return None
    return Book([(word, [settled(first[word], found)]) for word in first])


def lets(book, tree, letter):
    """Tell whether a kind of its word for each leaf puts a tree together to a plain kind, just as it says."""
    check_trees([tree])
    check_letter(letter)
    check_known(book, leaf_words(tree))

    def shown(part, made):
        if part[0] == "leaf":
            return book.kinds(part[1])
        kinds = [put_together(part[0], one, other) for one in made[0] for other in made[1]]
        return [kind for at, kind in enumerate(kinds) if kind is not None and kind not in kinds[:at]]

    return ("plain", letter) in folded(tree, indexes_in_tree, shown)


def fits(book, other, letter):
    """Return what, put for letters, makes each word's only kind that of another book, None if nothing does."""
    check_letter(letter)
    known = other.words()
    for word, kinds in book.entries:
        if word not in known or len(kinds) != 1 or len(other.kinds(word)) != 1:
            raise InvalidBook(word)
    table = {letter: ("plain", letter)}
    for word, kinds in book.entries:
        for part, put in pairs_of_parts(kinds[0], other.kinds(word)[0]):
            if part[0] != "plain" or table.setdefault(part[1], put) != put:
                return None
    return [(told, table[told]) for told in sorted(table) if told != letter]
