"""Trees of words: what stands in them, and their checks."""

from waitwords.bookchecks import check_word
from waitwords.copies import fresh
from waitwords.errors import InvalidTree
from waitwords.kinds import LETTERS
from waitwords.walks import outside_first

# The indexes of the trees within each tree.
WITHIN_TREE = {"leaf": (), "behind": (1, 2), "ahead": (1, 2)}


def indexes_in_tree(part):
    """Return the indexes of the trees within a part."""
    return WITHIN_TREE.get(part[0], ())


def tree_parts(tree):
    """Return the list of all parts, a part ahead of those within it, from the left."""
    return [entry[0] for entry in outside_first(tree, indexes_in_tree)]


def leaf_words(tree):
    """Return the list of the words of a tree, from the left."""
    return [part[1] for part in tree_parts(tree) if part[0] == "leaf"]


def check_trees(trees):
    """Raise the errors of trees."""
    for tree in trees:
        for word in leaf_words(tree):
            check_word(word)
    for tree in trees:
        for part in tree_parts(tree):
            if part[0] not in WITHIN_TREE:
                raise InvalidTree(fresh(part))


def general_pairs(trees, letter):
    """Return the list of the tuples (word, kind) of the leaves of trees, with letters of their own but for the told."""
    left = [sign for sign in LETTERS if sign != letter][::-1]
    found = []
    for tree in trees:
        inner = {(-1, 0): ("plain", letter)}
        for number, (part, around, at) in enumerate(outside_first(tree, indexes_in_tree)):
            kind = inner[(around, at)]
            if part[0] == "leaf":
                found.append((part[1], kind))
            else:
                own = ("plain", left.pop())
                first, second = kinds_of_parts(part[0], kind, own)
                inner[(number, 1)] = first
                inner[(number, 2)] = second
    return found


def kinds_of_parts(text, kind, own):
    """Return the kinds of both parts of a tree of a kind; `own` is that of the part for which the other one waits."""
    if text == "behind":
        return ("behind", kind, own), own
    return own, ("ahead", own, kind)
