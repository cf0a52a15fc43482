"""The texts of kinds, rows, readings, papers, trees and books."""

# What stands between the two parts of a kind.
BETWEEN = {"behind": "/", "ahead": "\\", "with": "."}

GIVE_SIGNS = {"givebehind": "b", "giveahead": "a"}


def show_kind(kind):
    """Return the text of a kind."""
    if kind[0] == "plain":
        return kind[1]
    return "(" + show_kind(kind[1]) + BETWEEN[kind[0]] + show_kind(kind[2]) + ")"


def show_row(row):
    """Return the text of a row."""
    return " , ".join([show_kind(kind) for kind in row])


def show_reading(reading):
    """Return the text of a reading."""
    if reading[0] == "word":
        return "*"
    if reading[0] in GIVE_SIGNS:
        return GIVE_SIGNS[reading[0]] + "[" + show_kind(reading[1]) + "]" + show_reading(reading[2])
    return _put_together(reading[0], show_reading(reading[1]), show_reading(reading[2]))


def show_tree(tree):
    """Return the text of a tree."""
    if tree[0] == "leaf":
        return tree[1]
    return _put_together(tree[0], show_tree(tree[1]), show_tree(tree[2]))


def _put_together(text, first, second):
    """Return the text of a "behind" or an "ahead" of a reading or a tree."""
    sign = " > " if text == "behind" else " < "
    return "(" + first + sign + second + ")"


def show_paper(paper):
    """Return the text of a paper."""
    if paper[0] == "same":
        return "same[" + show_kind(paper[1]) + "]"
    # Behind the first text there stand places and papers alone.
    shown = [str(thing) if isinstance(thing, int) else show_paper(thing) for thing in paper[1:]]
    return paper[0] + "[" + ";".join(shown) + "]"


def show_book(book):
    """Return the text of a book."""
    shown = [word + ": " + show_row(kinds) for word, kinds in book.entries]
    return " ; ".join(shown) if shown else "none"
