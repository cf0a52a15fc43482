"""Long readings. The readings show a kind of their row here."""

from waitwords.readingparts import is_give, parts_inside_first
from waitwords.shortening import short_form
from waitwords.showing import shown_kinds

WORD = ("word",)


def given_back(part, kind):
    """Return the give, and those within it, that must stand for a part that shows a kind."""
    if kind[0] == "behind":
        whole = ("behind", part, given_back(WORD, kind[2]))
        return ("givebehind", kind[2], given_back(whole, kind[1]))
    if kind[0] == "ahead":
        whole = ("ahead", given_back(WORD, kind[1]), part)
        return ("giveahead", kind[1], given_back(whole, kind[2]))
    return part


def lengthened(shown):
    """Return what must stand for a part that is not the P of a "behind" or an "ahead".

    The part comes with the kind that it shows, as a tuple (part, kind).
    """
    part, kind = shown
    if is_give(part):
        return part
    return given_back(part, kind)


def long_part(part, stack):
    """Return a part with long parts within it; take these with their kinds from the end of a list."""
    if part[0] == "behind":
        second = lengthened(stack.pop())
        return ("behind", stack.pop()[0], second)
    if part[0] == "ahead":
        waiting = stack.pop()[0]
        return ("ahead", lengthened(stack.pop()), waiting)
    if is_give(part):
        return (part[0], part[1], lengthened(stack.pop()))
    return part


def long_reading(row, reading):
    """Return the long form of a reading."""
    parts = parts_inside_first(short_form(reading))
    stack = []
    for part, kind in zip(parts, shown_kinds(row, parts)):
        stack.append((long_part(part, stack), kind))
    return lengthened(stack[0])
