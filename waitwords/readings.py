"""Readings: the kinds that they show, their steps, and their one long form."""

from waitwords.errors import InvalidPlace
from waitwords.kindparts import TURNED, turn_kind
from waitwords.lengthening import long_reading
from waitwords.readingchecks import check_readings, check_readings_of_row
from waitwords.readingparts import is_give, parts_inside_first, put_for_kind
from waitwords.shortening import short_form, step_places, stepped_at

TURNED_GIVES = {"givebehind": "giveahead", "giveahead": "givebehind"}


def width(reading):
    """Return how many kinds the row of a reading has."""
    return check_readings([reading])[0]


def kind_of(row, reading):
    """Return the kind that a reading shows of a row."""
    return check_readings_of_row(row, [reading])[0]


def is_short(reading):
    """Tell whether no step can be made in a reading."""
    check_readings([reading])
    return not step_places(reading)


def is_long(row, reading):
    """Tell whether a reading of a row is its own long form."""
    check_readings_of_row(row, [reading])
    return long_reading(row, reading) == reading


def steps(reading):
    """Return the places at which a step can be made, a part ahead of those within it, from the left."""
    check_readings([reading])
    return step_places(reading)


def after_step(reading, place):
    """Return the whole reading that the step at a place makes."""
    check_readings([reading])
    if place not in step_places(reading):
        raise InvalidPlace(list(place))
    return stepped_at(reading, place)


def shortened(reading):
    """Return the short reading that a reading comes to by steps."""
    check_readings([reading])
    return short_form(reading)


def long_form(row, reading):
    """Return the long form of a reading of a row."""
    check_readings_of_row(row, [reading])
    return long_reading(row, reading)


def put_in(reading, at, other):
    """Return a reading with another one for the word that stands for the kind at a place of its row."""
    wide = check_readings([reading, other])[0]
    if not 0 <= at < wide:
        raise InvalidPlace(at)
    return put_for_kind(reading, at, other)


def turned_reading(reading):
    """Return the reading of the turned row."""
    check_readings([reading])
    stack = []
    for part in parts_inside_first(reading):
        stack.append(_turned_part(part, stack))
    return stack[0]


def _turned_part(part, stack):
    """Return the turned part; take the turned parts within it from the end of a list."""
    if part[0] == "word":
        return part
    if is_give(part):
        return (TURNED_GIVES[part[0]], turn_kind(part[1]), stack.pop())
    # The end of the list is the right part, which stands first now.
    first = stack.pop()
    return (TURNED[part[0]], first, stack.pop())


def same_readings(row, one, other):
    """Tell whether the long forms of two readings of a row are alike."""
    check_readings_of_row(row, [one, other])
    return long_reading(row, one) == long_reading(row, other)
