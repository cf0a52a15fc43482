"""The parts of readings and the words in them. Nothing is checked here.

A place is the list of the indexes that lead from a reading to one of its parts.
"""

# The indexes of the readings within each reading.
INNER = {"word": (), "behind": (1, 2), "ahead": (1, 2), "givebehind": (2,), "giveahead": (2,)}


def is_reading_part(part):
    """Tell whether the first text of a tuple is that of a reading."""
    return part[0] in INNER


def is_give(part):
    """Tell whether a part gives a kind back."""
    return part[0] in ("givebehind", "giveahead")


def parts_outside_first(reading):
    """Return the tuples (part, around, at) of all parts, a part ahead of those within it, from the left.

    The part stands at the index `at` of the part whose place in this list is `around`.
    """
    found = []
    left = [(reading, -1, 0)]
    while left:
        part, around, at = left.pop()
        number = len(found)
        found.append((part, around, at))
        for inner in reversed(INNER.get(part[0], ())):
            left.append((part[inner], number, inner))
    return found


def place_of_part(parts, number):
    """Return the place of one of the outside first parts."""
    place = []
    _, around, at = parts[number]
    while around >= 0:
        place.append(at)
        _, around, at = parts[around]
    return place[::-1]


def parts_inside_first(reading):
    """Return the list of all parts, those within a part ahead of it, from the left."""
    found = []
    left = [reading]
    while left:
        part = left.pop()
        found.append(part)
        for at in INNER.get(part[0], ()):
            left.append(part[at])
    return found[::-1]


def given_kinds(reading):
    """Return the kinds that the gives of a reading hold, outside first, then from the left."""
    return [part[1] for part, around, at in parts_outside_first(reading) if is_give(part)]


def width_above(part, widths):
    """Return the width of a part; take those of the readings within it from the end of a list."""
    if part[0] == "word":
        return 1
    if is_give(part):
        return widths.pop() - 1
    return widths.pop() + widths.pop()


def sort_words(parts):
    """Return the list of the words that stand for the kinds of the row, and a dict of the given kinds of the others.

    The parts are the inside first ones of a reading, whose words are counted from the left.
    """
    given = {}
    stack = []
    many = 0
    for part in parts:
        if part[0] == "word":
            stack.append([many])
            many += 1
        elif part[0] == "givebehind":
            given[stack[-1].pop()] = part[1]
        elif part[0] == "giveahead":
            given[stack[-1].pop(0)] = part[1]
        else:
            second = stack.pop()
            stack[-1].extend(second)
    return stack[0], given


def place_of_kind(reading, at):
    """Return the place of the word that stands for a kind of a reading's row, -1 being the last one."""
    free, _ = sort_words(parts_inside_first(reading))
    parts = parts_outside_first(reading)
    words = [number for number, entry in enumerate(parts) if entry[0][0] == "word"]
    return place_of_part(parts, words[free[at]])


def part_at(reading, place):
    """Return the part of a reading at a place."""
    for at in place:
        reading = reading[at]
    return reading


def put_at(reading, place, other):
    """Return a reading with another one in the place of the part at a place."""
    around = []
    for at in place:
        around.append((reading, at))
        reading = reading[at]
    for part, at in reversed(around):
        other = part[:at] + (other,) + part[at + 1:]
    return other


def put_for_kind(reading, at, other):
    """Return a reading with another one for the word that stands for a kind of its row, -1 being the last one."""
    return put_at(reading, place_of_kind(reading, at), other)
