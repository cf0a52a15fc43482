"""What stands in a kind. Nothing is checked here."""

# The signs that the two parts have in the word of a kind.
SIGNS = {"behind": (1, -1), "ahead": (-1, 1), "with": (1, 1)}

TURNED = {"behind": "ahead", "ahead": "behind", "with": "with"}


def is_letter(text):
    """Tell whether a text is a letter from a to z."""
    return len(text) == 1 and "a" <= text <= "z"


def is_kind_part(part):
    """Tell whether a tuple is a kind, as far as its parts are."""
    return part[0] in SIGNS or part[0] == "plain" and is_letter(part[1])


def parts_of_kind(kind):
    """Return all parts, itself, too, a part ahead of those within it, from the left."""
    found = []
    left = [kind]
    while left:
        part = left.pop()
        found.append(part)
        if part[0] in SIGNS:
            left.append(part[2])
            left.append(part[1])
    return found


def letters_within(kind):
    """Return the list of all letters as they stand, from the left."""
    return [part[1] for part in parts_of_kind(kind) if part[0] == "plain"]


def has_with(kind):
    """Tell whether a "with" stands in a kind."""
    return any([part[0] == "with" for part in parts_of_kind(kind)])


def depth_of(kind):
    """Return how deep a kind is, a plain one 1."""
    if kind[0] == "plain":
        return 1
    return 1 + max(depth_of(kind[1]), depth_of(kind[2]))


def turn_kind(kind):
    """Return the turned kind."""
    if kind[0] == "plain":
        return kind
    return (TURNED[kind[0]], turn_kind(kind[2]), turn_kind(kind[1]))


def swap_letters(kind, table):
    """Return a kind with the kinds of a dict in the place of its letters, all at once."""
    if kind[0] == "plain":
        return table.get(kind[1], kind)
    return (kind[0], swap_letters(kind[1], table), swap_letters(kind[2], table))


def signed_letters(kind, start):
    """Return the word of a kind as a list of tuples (letter, sign), nothing left out yet.

    It begins with the sign 1; with -1 the word is turned round, and has the other signs.
    """
    found = []
    left = [(kind, start)]
    while left:
        part, sign = left.pop()
        if part[0] == "plain":
            found.append((part[1], sign))
        else:
            first_sign, second_sign = SIGNS[part[0]]
            pair = [(part[1], sign * first_sign), (part[2], sign * second_sign)]
            # With the other sign the word is turned round, so the second part comes first.
            left.extend(pair if sign == -1 else pair[::-1])
    return found


def pairs_of_parts(one, other):
    """Return the pairs of parts at one place at which two kinds cannot be followed together any more.

    These are pairs of two plain parts, or of parts with unlike first texts, from the left.
    """
    found = []
    left = [(one, other)]
    while left:
        pair = left.pop()
        part, beside = pair
        if part[0] == beside[0] and part[0] in SIGNS:
            left.append((part[2], beside[2]))
            left.append((part[1], beside[1]))
        else:
            found.append(pair)
    return found
