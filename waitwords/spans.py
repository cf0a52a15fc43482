"""Spans: tables of what things make, in which kinds and rows have lots."""

from waitwords.copies import fresh
from waitwords.errors import InvalidLetter, InvalidLot, InvalidNumber, InvalidSpan
from waitwords.kindchecks import check_kinds, check_row
from waitwords.kindparts import is_letter
from waitwords.singlekinds import check_signs
from waitwords.spanlots import are_things, is_lot, is_table, kind_lot, lot_of_row
from waitwords.spanlots import outside_first_triple, text_products, texts_of


class Span:
    """A table of things, in which it is alike how three of them are grouped."""

    def __init__(self, products):
        if not is_table(products):
            raise InvalidSpan(fresh(products))
        triple = outside_first_triple(products)
        if triple is not None:
            raise InvalidSpan(triple)
        self._rows = fresh(products)

    @property
    def products(self):
        """Return the list of lists of what a thing and then another one make."""
        return [list(row) for row in self._rows]

    @property
    def size(self):
        """Return how many things there are."""
        return len(self._rows)

    def __eq__(self, other):
        return isinstance(other, Span) and self._rows == other._rows


def lot_of(span, kind, lots):
    """Return the lot of a kind, told the lots of letters."""
    check_kinds([kind])
    _check_lots(span, lots)
    return kind_lot(span.products, kind, dict(lots))


def row_lot(span, row, lots):
    """Return the lot of a row, told the lots of letters."""
    check_row(row, [])
    _check_lots(span, lots)
    return lot_of_row(span.products, row, dict(lots))


def first_outside(span, row, kind, lots):
    """Return the least thing of a row's lot that is not in a kind's, None if there is none."""
    check_row(row, [kind])
    _check_lots(span, lots)
    inside = kind_lot(span.products, kind, dict(lots))
    for thing in lot_of_row(span.products, row, dict(lots)):
        if thing not in inside:
            return thing
    return None


def text_span(signs, length):
    """Return the tuple (span, texts) of the texts of at most so many signs, and None for all that are too long."""
    check_signs(signs, 2)
    if length < 1:
        raise InvalidNumber(length)
    texts = texts_of(signs, length) + [None]
    return Span(text_products(texts)), texts


def turned_span(span):
    """Return the span of the products the other way about."""
    products = span.products
    many = range(span.size)
    return Span([[products[other][one] for other in many] for one in many])


def beside_span(one, other):
    """Return the span of pairs of things of both, i * (size of the other) + j for the things i and j."""
    wide = other.size
    first, second = one.products, other.products
    pairs = [(i, j) for i in range(one.size) for j in range(wide)]
    return Span([[first[i][k] * wide + second[j][m] for k, m in pairs] for i, j in pairs])


def keeps_span(span, other, places):
    """Tell whether a list of things of the other span, one for each thing, takes each product to the product."""
    if len(places) != span.size or not are_things(places, other.size):
        raise InvalidLot(list(places))
    products, wanted = span.products, other.products
    many = range(span.size)
    return all([places[products[i][j]] == wanted[places[i]][places[j]] for i in many for j in many])


def _check_lots(span, lots):
    """Raise InvalidLetter for a letter that is none or stood ahead, InvalidLot for what is no lot of the span."""
    letters = [letter for letter, _ in lots]
    for at, letter in enumerate(letters):
        if not is_letter(letter) or letter in letters[:at]:
            raise InvalidLetter(letter)
    for _, lot in lots:
        if not is_lot(lot, span.size):
            raise InvalidLot(list(lot))
