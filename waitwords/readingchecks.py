"""The checks of readings that the functions of the program share."""

from waitwords.copies import fresh
from waitwords.errors import InvalidReading
from waitwords.kindchecks import check_kinds, check_single, check_single_row
from waitwords.readingparts import given_kinds, is_reading_part, parts_inside_first, width_above
from waitwords.showing import shown_kinds


def check_shape(reading):
    """Raise InvalidReading for the first part that is none or has a width below 1; return the width of the whole."""
    widths = []
    for part in parts_inside_first(reading):
        if not is_reading_part(part):
            raise InvalidReading(fresh(part))
        width = width_above(part, widths)
        if width < 1:
            raise InvalidReading(part)
        widths.append(width)
    return widths[0]


def check_shown(row, reading):
    """Raise InvalidReading for what shows no kind of a row; return the kind that the reading shows."""
    if check_shape(reading) != len(row):
        raise InvalidReading(reading)
    return shown_kinds(row, parts_inside_first(reading))[-1]


def check_readings(readings):
    """Check readings without a row; return the list of their widths."""
    given = [kind for reading in readings for kind in given_kinds(reading)]
    check_kinds(given)
    check_single(given)
    return [check_shape(reading) for reading in readings]


def check_readings_of_row(row, readings):
    """Check a row and readings of it; return the list of the kinds that they show."""
    given = [kind for reading in readings for kind in given_kinds(reading)]
    check_single_row(row, given)
    return [check_shown(row, reading) for reading in readings]
