"""The checks of kinds and rows that the functions of the program share."""

from waitwords.copies import fresh
from waitwords.errors import InvalidKind, InvalidLetter, InvalidRow, NotSingle
from waitwords.kindparts import has_with, is_kind_part, is_letter, parts_of_kind


def check_kinds(kinds):
    """Raise InvalidKind for the first part of these that is none."""
    for kind in kinds:
        for part in parts_of_kind(kind):
            if not is_kind_part(part):
                raise InvalidKind(fresh(part))


def check_not_empty(row):
    """Raise InvalidRow for a row without kinds."""
    if not row:
        raise InvalidRow([])


def check_row(row, others):
    """Raise the errors of a row and of other kinds behind it that may be of any sort."""
    check_kinds(row + others)
    check_not_empty(row)


def check_single(kinds):
    """Raise NotSingle for the first of these in which a "with" stands."""
    for kind in kinds:
        if has_with(kind):
            raise NotSingle(kind)


def check_single_row(row, others):
    """Raise the errors of a row and of other kinds behind it that must be single."""
    check_row(row, others)
    check_single(row + others)


def check_letter(letter):
    """Raise InvalidLetter for a text that is no letter."""
    if not is_letter(letter):
        raise InvalidLetter(letter)
