"""The parts of readings and the words in them. Nothing is checked here."""

from waitwords.walks import inside_first, outside_first, place_of_part, put_at

# The indexes of the readings within each reading.
INNER = {"word": (), "behind": (1, 2), "ahead": (1, 2), "givebehind": (2,), "giveahead": (2,)}


def indexes_in_reading(part):
    """Return the indexes of the readings within a part."""
    return INNER.get(part[0], ())


def is_reading_part(part):
    """Tell whether the first text of a tuple is that of a reading."""
    return part[0] in INNER


def is_give(part):
    """Tell whether a part gives a kind back."""
    return part[0] in ("givebehind", "giveahead")


def parts_outside_first(reading):
    """Return the tuples (part, around, at) of all parts, as `outside_first` tells them."""
    return outside_first(reading, indexes_in_reading)


def parts_inside_first(reading):
    """Return the list of all parts, those within a part ahead of it, from the left."""
    return inside_first(reading, indexes_in_reading)


def given_kinds(reading):
    """Return the kinds that the gives of a reading hold, outside first, then from the left."""
    return [part[1] for part, around, at in parts_outside_first(reading) if is_give(part)]


def width_above(part, widths):
    """Return the width of a part; take those of the readings within it from the end of a list."""
    if part[0] == "word":
        return 1
    if is_give(part):
        return widths.pop() - 1
    return widths.pop() + widths.pop()


def sort_words(parts):
    """Return the list of the words that stand for the kinds of the row, and a dict of the given kinds of the others.

    The parts are the inside first ones of a reading, whose words are counted from the left.
    """
    given = {}
    stack = []
    many = 0
    for part in parts:
        if part[0] == "word":
            stack.append([many])
            many += 1
        elif part[0] == "givebehind":
            given[stack[-1].pop()] = part[1]
        elif part[0] == "giveahead":
            given[stack[-1].pop(0)] = part[1]
        else:
            second = stack.pop()
            stack[-1].extend(second)
    return stack[0], given


def place_of_kind(reading, at):
    """Return the place of the word that stands for a kind of a reading's row, -1 being the last one."""
    free, _ = sort_words(parts_inside_first(reading))
    parts = parts_outside_first(reading)
    words = [number for number, entry in enumerate(parts) if entry[0][0] == "word"]
    return place_of_part(parts, words[free[at]])


def put_for_kind(reading, at, other):
    """Return a reading with another one for the word that stands for a kind of its row, -1 being the last one."""
    return put_at(reading, place_of_kind(reading, at), other)
