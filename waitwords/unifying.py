"""Kinds for letters that make kinds alike. Nothing is checked here.

A dict of bindings tells what is put for a letter: a kind, perhaps one more letter, in which letters stand that the
dict tells, too. No letter stands in what it leads to itself.
"""

from waitwords.kindparts import letters_within


def bindings(pairs, told):
    """Return the bindings that make the kinds of each pair alike, None if there are none.

    For the told letter nothing is put; it may be the empty text.
    """
    found = {}
    left = pairs[::-1]
    while left:
        one, other = left.pop()
        one = bound_kind(one, found)
        other = bound_kind(other, found)
        if one == other:
            continue
        if one[0] == "plain" or other[0] == "plain":
            letter, kind = put_away(one, other, told)
            if letter == told or is_reached(letter, kind, found):
                return None
            found[letter] = kind
        elif one[0] == other[0]:
            left.append((one[2], other[2]))
            left.append((one[1], other[1]))
        else:
            return None
    return found


def bound_kind(kind, found):
    """Return a kind, or what is put for it, if it is a letter for which something is put."""
    while kind[0] == "plain" and kind[1] in found:
        kind = found[kind[1]]
    return kind


def put_away(one, other, told):
    """Return the letter for which something is put, and what, if one of two kinds is plain at least.

    Of two letters it is the later one, but never the told one.
    """
    if one[0] != "plain":
        return other[1], one
    if other[0] != "plain":
        return one[1], other
    if one[1] == told or other[1] != told and one[1] < other[1]:
        return other[1], one
    return one[1], other


def is_reached(letter, kind, found):
    """Tell whether a letter stands in a kind, or in what is put for the letters in it."""
    left = [kind]
    ahead = []
    while left:
        inside = letters_within(left.pop())
        for inner in inside:
            if inner == letter:
                return True
            if inner in found and inner not in ahead:
                ahead.append(inner)
                left.append(found[inner])
    return False


def settled(kind, found):
    """Return a kind with all that is put for letters, until nothing is put for any letter in it."""
    if kind[0] != "plain":
        return (kind[0], settled(kind[1], found), settled(kind[2], found))
    return settled(found[kind[1]], found) if kind[1] in found else kind
