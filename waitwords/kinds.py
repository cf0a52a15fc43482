"""Kinds and rows: what stands in them, and kinds made of others."""

from waitwords.kindchecks import check_kinds, check_letter, check_not_empty
from waitwords.kindparts import depth_of, has_with, letters_within, pairs_of_parts
from waitwords.kindparts import signed_letters, swap_letters, turn_kind

LETTERS = "abcdefghijklmnopqrstuvwxyz"


def letters(kind):
    """Return the text of the letters of a kind, ascending, each once."""
    check_kinds([kind])
    return "".join(sorted(set(letters_within(kind))))


def size(kind):
    """Return how many letters stand in a kind."""
    check_kinds([kind])
    return len(letters_within(kind))


def depth(kind):
    """Return 1 for a plain kind, one more than the deeper part for any other one."""
    check_kinds([kind])
    return depth_of(kind)


def is_single(kind):
    """Tell whether no "with" stands in a kind."""
    check_kinds([kind])
    return not has_with(kind)


def turned(kind):
    """Return a kind with "behind" and "ahead" exchanged."""
    check_kinds([kind])
    return turn_kind(kind)


def turned_row(row):
    """Return the turned kinds of a row, the last one first."""
    check_kinds(row)
    check_not_empty(row)
    return [turn_kind(kind) for kind in row[::-1]]


def swapped(kind, letter, other):
    """Return a kind with another one in the place of each "plain" of a letter."""
    check_kinds([kind, other])
    check_letter(letter)
    return swap_letters(kind, {letter: other})


def lifted(kind, other, behind):
    """Return a kind that waits for one that waits for the told kind."""
    check_kinds([kind, other])
    if behind:
        return ("behind", other, ("ahead", kind, other))
    return ("ahead", ("behind", other, kind), other)


def balance(row):
    """Return the ascending list of the tuples (letter, integer) of a row, 0 left out."""
    check_kinds(row)
    check_not_empty(row)
    totals = {}
    for kind in row:
        for letter, sign in signed_letters(kind, 1):
            totals[letter] = totals.get(letter, 0) + sign
    return [(letter, totals[letter]) for letter in sorted(totals) if totals[letter] != 0]


def word(row):
    """Return the word of a row, a list of tuples (letter, 1 or -1)."""
    check_kinds(row)
    check_not_empty(row)
    found = []
    for kind in row:
        for letter, sign in signed_letters(kind, 1):
            if found and found[-1] == (letter, -sign):
                found.pop()
            else:
                found.append((letter, sign))
    return found


def puts(kind, other):
    """Return what is put for each letter of a kind to make it another one, None if nothing does."""
    check_kinds([kind, other])
    table = {}
    for part, put in pairs_of_parts(kind, other):
        if part[0] != "plain" or table.setdefault(part[1], put) != put:
            return None
    return [(letter, table[letter]) for letter in sorted(table)]


def common(one, other):
    """Return the kind of which both come by putting kinds for letters, the nearest to both."""
    check_kinds([one, other])
    unlike = []
    for pair in pairs_of_parts(one, other):
        if pair not in unlike:
            unlike.append(pair)
    return _lettered(one, other, unlike)


def _lettered(one, other, unlike):
    """Return the parts that two kinds share, with a letter for each pair of a list."""
    if (one, other) in unlike:
        return ("plain", LETTERS[unlike.index((one, other))])
    return (one[0], _lettered(one[1], other[1], unlike), _lettered(one[2], other[2], unlike))
