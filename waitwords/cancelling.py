"""Putting together alone: readings of "word", "behind" and "ahead"."""

from waitwords.kindchecks import check_row
from waitwords.showing import put_together
from waitwords.texts import show_kind, show_reading


def plain_kinds(row):
    """Return the list of all kinds to which a row comes by putting together alone, ascending by their texts."""
    check_row(row, [])
    return _ascending(_all_readings(row)[(0, len(row))])


def comes_plainly(row, kind):
    """Tell whether a row comes to a kind by putting together alone."""
    check_row(row, [kind])
    return any([shown == kind for shown, _ in _all_readings(row)[(0, len(row))]])


def plain_readings(row, kind):
    """Return the list of all readings by putting together alone that show a kind, ascending by their texts."""
    check_row(row, [kind])
    found = [reading for shown, reading in _all_readings(row)[(0, len(row))] if shown == kind]
    return sorted(found, key=show_reading)


def chart(row):
    """Return the list of the tuples (start, end, kinds) of all stretches of a row, with what each comes to so."""
    check_row(row, [])
    found = _all_readings(row)
    many = len(row)
    stretches = [(start, end) for start in range(many) for end in range(start + 1, many + 1)]
    return [(start, end, _ascending(found[(start, end)])) for start, end in stretches]


def _ascending(pairs):
    """Return the list of the unlike kinds of tuples (kind, reading), ascending by their texts."""
    kinds = []
    for kind, _ in pairs:
        if kind not in kinds:
            kinds.append(kind)
    return sorted(kinds, key=show_kind)


def _all_readings(row):
    """Return for each stretch (start, end) of a row the list of the tuples (kind, reading) of all its readings."""
    many = len(row)
    found = {(at, at + 1): [(kind, ("word",))] for at, kind in enumerate(row)}
    for wide in range(2, many + 1):
        for start in range(many - wide + 1):
            pairs = []
            for middle in range(start + 1, start + wide):
                pairs.extend(_put_beside(found[(start, middle)], found[(middle, start + wide)]))
            found[(start, start + wide)] = pairs
    return found


def _put_beside(left, right):
    """Return the list of the tuples (kind, reading) that readings of two stretches side by side make."""
    found = []
    for first, one in left:
        for second, other in right:
            for text in ("behind", "ahead"):
                kind = put_together(text, first, second)
                if kind is not None:
                    found.append((kind, (text, one, other)))
    return found
