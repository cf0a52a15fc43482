"""Things: what kinds have, if each letter has some, and what readings are worth."""

from waitwords.copies import fresh
from waitwords.errors import InvalidSizes, InvalidThing
from waitwords.kindchecks import check_kinds
from waitwords.kindparts import is_letter, letters_within
from waitwords.readingchecks import check_readings_of_row
from waitwords.readingparts import given_kinds
from waitwords.thingnumbers import number_of_thing, sized_kind, thing_at
from waitwords.worthtables import full_table, worth_table


def how_many_things(kind, sizes):
    """Return how many things a kind has."""
    return _sized(kind, sizes)[1]


def things(kind, sizes):
    """Return the ascending list of the things of a kind."""
    sized = _sized(kind, sizes)
    return [thing_at(sized, number) for number in range(sized[1])]


def place_of(kind, sizes, thing):
    """Return the place of a thing in the list of the things of a kind."""
    return _number(_sized(kind, sizes), thing)


def worth(row, reading, sizes, told):
    """Return the thing that a reading is worth for a list of things of the kinds of its row."""
    rows = _sized_row(row, [reading], sizes)
    if len(told) != len(row):
        raise InvalidThing(fresh(told))
    tables = [(sized, [_number(sized, thing)]) for sized, thing in zip(rows, told)]
    return _worths(reading, tables, sizes)[0]


def worths(row, reading, sizes):
    """Return the list of the worths of a reading for all lists of things, the last one going quickest."""
    rows = _sized_row(row, [reading], sizes)
    return _worths(reading, [full_table(sized) for sized in rows], sizes)


def first_unlike_worth(row, one, other, sizes):
    """Return the first list of things for which two readings have unlike worths, None if there is none."""
    rows = _sized_row(row, [one, other], sizes)
    tables = [full_table(sized) for sized in rows]
    pairs = list(zip(_worths(one, tables, sizes), _worths(other, tables, sizes)))
    for number, (first, second) in enumerate(pairs):
        if first != second:
            return _things_at(rows, number)
    return None


def _things_at(rows, number):
    """Return the list of things with a number, of all lists of a thing of each sized kind."""
    found = []
    for sized in rows[::-1]:
        number, place = divmod(number, sized[1])
        found.append(thing_at(sized, place))
    return found[::-1]


def _worths(reading, tables, sizes):
    """Return the list of the worths of a reading for all that the tables of its row's words let."""
    sized, numbers = worth_table(reading, tables, dict(sizes))
    return [thing_at(sized, number) for number in numbers]


def _sized(kind, sizes):
    """Check a kind and sizes; return the sized kind."""
    check_kinds([kind])
    _check_sizes([kind], sizes)
    return sized_kind(kind, dict(sizes))


def _sized_row(row, readings, sizes):
    """Check a row, readings of it and sizes; return the list of the sized kinds of the row."""
    check_readings_of_row(row, readings)
    _check_sizes(row + [kind for reading in readings for kind in given_kinds(reading)], sizes)
    counts = dict(sizes)
    return [sized_kind(kind, counts) for kind in row]


def _check_sizes(kinds, sizes):
    """Raise InvalidSizes if sizes are not as they must be, or lack a letter of the kinds."""
    told = [letter for letter, _ in sizes]
    right = told == sorted(set(told)) and all([is_letter(letter) for letter in told])
    if not right or not all([1 <= number <= 3 for _, number in sizes]):
        raise InvalidSizes(fresh(sizes))
    if not all([letter in told for kind in kinds for letter in letters_within(kind)]):
        raise InvalidSizes(fresh(sizes))


def _number(sized, thing):
    """Return the number of a thing; raise InvalidThing if it is none of the kind."""
    number = number_of_thing(sized, thing)
    if number is None:
        raise InvalidThing(fresh(thing))
    return number
