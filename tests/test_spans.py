"""spans.py: what the class and the functions answer and refuse."""

import itertools
import random
import unittest

from samples import A, AB, AS, B, C, ODD, S, WITH, Checks, ahead, behind, laid_out
from slowways import any_row, any_row_of_one_word, slow_comes
from waitwords.errors import InvalidKind, InvalidLetter, InvalidLot, InvalidNumber, InvalidRow, InvalidSpan, WaitError
from waitwords.finding import comes_to
from waitwords.spans import Span, beside_span, first_outside, keeps_span, lot_of, row_lot, text_span, turned_span

BAD, WORSE = ("plain", "B"), ("plain", "")
FLIP = [[0, 1], [1, 0]]
LEFT = [[0, 0], [1, 1]]
WRONG_LETTERS = ["", "A", "ab", "1", " ", "{", "\u00e9"]


def together(one, other):
    return ("with", one, other)


def groups_alike(products):
    many = range(len(products))
    return all(products[products[i][j]][k] == products[i][products[j][k]]
               for i in many for j in many for k in many)


def all_tables(many):
    """All products of so many things in which grouping does not count."""
    rows = list(itertools.product(range(many), repeat=many))
    tables = [[list(row) for row in table] for table in itertools.product(rows, repeat=many)]
    return [table for table in tables if groups_alike(table)]


def slow_lot(products, kind, table):
    """The lot of a kind as the document words it, as a set."""
    if kind[0] == "plain":
        return set(table.get(kind[1], []))
    one, other = slow_lot(products, kind[1], table), slow_lot(products, kind[2], table)
    every = set(range(len(products)))
    if kind[0] == "behind":
        return {i for i in every if {products[i][j] for j in other} <= one}
    if kind[0] == "ahead":
        return {i for i in every if {products[j][i] for j in one} <= other}
    return {products[i][j] for i in one for j in other}


def slow_row_lot(products, row, table):
    """All that things of a row's kinds, one of each, make."""
    found = set()
    for things in itertools.product(*[slow_lot(products, kind, table) for kind in row]):
        whole = things[0]
        for thing in things[1:]:
            whole = products[whole][thing]
        found.add(whole)
    return found


def some_spans():
    """Spans of many forms, always the same ones."""
    chance = random.Random(51)
    found = [Span(table) for many in (1, 2) for table in all_tables(many)]
    found += [Span(table) for table in chance.sample(all_tables(3), 25)]
    found += [text_span(signs, length)[0] for signs, length in (("a", 1), ("a", 3), ("a", 5), ("ab", 1), ("ab", 2))]
    found += [turned_span(text_span("ab", 2)[0]), beside_span(Span(FLIP), Span(LEFT))]
    found += [beside_span(text_span("ab", 1)[0], Span(FLIP)), beside_span(Span(LEFT), turned_span(Span(LEFT)))]
    return found


def any_lots(chance, span, letters):
    lots = [(letter, sorted(chance.sample(range(span.size), chance.randrange(span.size + 1)))) for letter in letters]
    chance.shuffle(lots)
    return lots


class Spans(Checks, unittest.TestCase):

    def test_products_and_size(self):
        for products in ([[0]], FLIP, LEFT, [[0, 0], [0, 0]], [[0, 1, 2], [1, 2, 0], [2, 0, 1]]):
            for span in (Span(products), Span(products=products)):
                self.assertEqual([span.products, span.size], [products, len(products)])
                self.assertIs(type(span.products), list)
                self.assert_unshared([span.products, span.products], products)

    def test_all_small_tables(self):
        right = 0
        for many in (1, 2):
            for cells in itertools.product(range(many), repeat=many * many):
                products = [list(cells[many * at:many * at + many]) for at in range(many)]
                if groups_alike(products):
                    right += 1
                    self.assertEqual(Span(products).products, products)
                else:
                    self.assertRaises(InvalidSpan, Span, products)
        self.assertEqual(right, 9)

    def test_changed_lists_change_no_span(self):
        products = [[0, 1], [1, 0]]
        span = Span(products)
        products[0][0] = 1
        products.append([2, 2])
        span.products[1][1] = 1
        span.products.append(7)
        self.assertEqual([span.products, span.size], [FLIP, 2])

    def test_equal_spans(self):
        self.assertTrue(Span(FLIP) == Span([list(row) for row in FLIP]))
        self.assertFalse(Span(FLIP) != Span(FLIP))
        self.assertFalse(Span(FLIP) == Span(LEFT))
        self.assertTrue(Span(FLIP) != Span(LEFT))
        self.assertFalse(Span([[0]]) == Span([[0, 0], [0, 0]]))
        self.assertTrue(Span(LEFT) == turned_span(turned_span(Span(LEFT))))

    def test_equal_to_nothing_else(self):
        for other in (FLIP, None, 0, "", (), object(), Span, ODD):
            self.assertFalse(Span(FLIP) == other)
            self.assertFalse(other == Span(FLIP))
            self.assertTrue(Span(FLIP) != other)

    def test_no_table(self):
        for products in ([], [[]], [[1]], [[-1]], [[0], [0]], [[0, 0]], [[0, 1], [1]], [[0, 1], [1, 2]], [[0, 1], [1, -1]],
                         [[0, 1], [1, 0, 0]], [[0, 1], [1, 0], [0, 0]], [[0, 1], []], [[2, 2], [2, 2]]):
            self.assert_refused(InvalidSpan, products, Span, products)
            self.assert_refused(InvalidSpan, products, Span, products=products)

    def test_groups_that_count(self):
        self.assert_refused(InvalidSpan, (0, 0, 1), Span, [[1, 0], [0, 0]])
        self.assert_refused(InvalidSpan, (0, 0, 0), Span, products=[[1, 1], [0, 0]])
        self.assert_refused(InvalidSpan, (1, 0, 1), Span, [[0, 1], [0, 0]])
        self.assert_refused(InvalidSpan, (1, 0, 1), Span, [[0, 0], [1, 0]])
        for many in (2, 3):
            chance = random.Random(many)
            for _ in range(300):
                products = [[chance.randrange(many) for _ in range(many)] for _ in range(many)]
                wrong = [(i, j, k) for i, j, k in itertools.product(range(many), repeat=3)
                         if products[products[i][j]][k] != products[i][products[j][k]]]
                if wrong:
                    self.assert_refused(InvalidSpan, wrong[0], Span, products)


class Lots(Checks, unittest.TestCase):

    def setUp(self):
        self.span = text_span("a", 2)[0]
        self.lots = [("a", [1]), ("b", [0])]

    def test_lot_of(self):
        span, lots = self.span, self.lots
        for kind, lot in ((A, [1]), (B, [0]), (C, []), (AB, [0]), (ahead(B, A), [0]), (behind(B, A), []), (WITH, [2]),
                          (together(B, B), [1]), (behind(A, C), [0, 1, 2]), (ahead(C, A), [0, 1, 2]),
                          (behind(C, A), []), (together(A, C), []), (behind(C, S), [0, 1, 2]),
                          (behind(together(B, B), B), [0]), (ahead(AB, A), [0]), (behind(behind(A, C), B), [0, 1, 2])):
            self.assert_answer(lot, lot_of, span=span, kind=kind, lots=lots)
        self.assert_answer([], lot_of, span=span, kind=A, lots=[])
        self.assert_answer([0, 1, 2], lot_of, span=span, kind=AB, lots=[])
        self.assert_answer([], lot_of, span=span, kind=AB, lots=[("b", [0]), ("a", [])])
        self.assert_answer([2], lot_of, span=span, kind=A, lots=[("z", []), ("a", [2])])

    def test_row_lot(self):
        span, lots = self.span, self.lots
        for row, lot in (([A], [1]), ([B, B], [1]), ([AB, B], [1]), ([B, B, B], [2]), ([B, C], []), ([C], []),
                         ([B, C, B], []), ([behind(A, C), B], [1, 2]), ([WITH], [2])):
            self.assert_answer(lot, row_lot, span=span, row=row, lots=lots)

    def test_order_counts(self):
        span = Span(LEFT)
        lots = [("a", [0]), ("b", [1]), ("c", [0, 1])]
        self.assert_answer([0], row_lot, span=span, row=[A, B], lots=lots)
        self.assert_answer([1], row_lot, span=span, row=[B, A], lots=lots)
        self.assert_answer([1], lot_of, span=span, kind=together(B, A), lots=lots)
        self.assert_answer([0], lot_of, span=span, kind=AB, lots=lots)
        self.assert_answer([], lot_of, span=span, kind=ahead(B, A), lots=lots)
        self.assert_answer([0, 1], lot_of, span=span, kind=ahead(B, B), lots=lots)
        self.assert_answer([1], row_lot, span=span, row=[B, C], lots=lots)
        self.assert_answer([0, 1], row_lot, span=span, row=[C, B], lots=lots)

    def test_first_outside(self):
        span, lots = self.span, self.lots
        self.assert_answer(None, first_outside, span=span, row=[AB, B], kind=A, lots=lots)
        self.assert_answer(0, first_outside, span=span, row=[B], kind=A, lots=lots)
        self.assert_answer(None, first_outside, span=span, row=[C], kind=A, lots=lots)
        self.assert_answer(1, first_outside, span=span, row=[A], kind=C, lots=lots)
        self.assert_answer(2, first_outside, span=span, row=[behind(A, C), B], kind=A, lots=lots)
        self.assert_answer(0, first_outside, span=span, row=[behind(A, C)], kind=A, lots=lots)
        self.assert_answer(None, first_outside, span=span, row=[A, A, A], kind=behind(A, C), lots=lots)

    def test_against_a_slow_way(self):
        chance = random.Random(52)
        spans = some_spans()
        outside = 0
        for number in range(3000):
            span = spans[number % len(spans)]
            texts = [("behind", "ahead"), ("behind", "ahead", "with")][number % 2]
            row, kind = any_row(chance, chance.choice([2, 4, 6, 8]), 4, "abc", texts)
            lots = any_lots(chance, span, "ab")
            products, table = span.products, dict(lots)
            told, inside = slow_row_lot(products, row, table), slow_lot(products, kind, table)
            self.assertEqual(lot_of(span, kind, lots), sorted(inside))
            self.assertEqual(row_lot(span, row, lots), sorted(told))
            self.assertEqual(first_outside(span, row, kind, lots), min(told - inside, default=None))
            outside += len(told - inside) > 0
        self.assertGreater(outside, 300)

    def test_where_a_row_comes_its_lot_lies_in_the_kinds(self):
        chance = random.Random(53)
        spans = some_spans()
        came = 0
        while came < 1200:
            texts = [("behind", "ahead"), ("behind", "ahead", "with")][came % 2]
            row, kind = any_row_of_one_word(chance, chance.choice([4, 6, 8]), 4, "ab", texts)
            if comes_to(row, kind):
                came += 1
                for _ in range(4):
                    span = chance.choice(spans)
                    lots = any_lots(chance, span, "ab")
                    self.assertIsNone(first_outside(span, row, kind, lots))
                    self.assertLessEqual(set(row_lot(span, row, lots)), set(lot_of(span, kind, lots)))

    def test_some_span_tells_of_rows_that_do_not_come(self):
        span = text_span("ab", 2)[0]
        for row, kind, lot, outside in (([A], B, [0], 0), ([B, AB], A, [3], 4), ([A, B], together(B, A), [0], 3),
                                        ([A, A], A, [0], 2)):
            self.assertFalse(slow_comes(tuple(row), kind))
            self.assert_answer(outside, first_outside, span=span, row=row, kind=kind, lots=[("a", lot), ("b", [1])])

    def test_one_thing_and_fourteen(self):
        one = Span([[0]])
        self.assert_answer([0], lot_of, span=one, kind=AB, lots=[("a", [0]), ("b", [0])])
        self.assert_answer([], lot_of, span=one, kind=AB, lots=[("b", [0])])
        self.assert_answer([0], row_lot, span=one, row=[A, A, A], lots=[("a", [0])])
        many, texts = text_span("a", 13)
        self.assertEqual([many.size, len(texts)], [14, 14])
        self.assert_answer([3, 4], lot_of, span=many, kind=AB, lots=[("a", [5, 6]), ("b", [1])])
        self.assert_answer([13], row_lot, span=many, row=[A, A], lots=[("a", [6, 13])])
        self.assert_answer(list(range(14)), lot_of, span=many, kind=behind(S, C), lots=[])


class Made(Checks, unittest.TestCase):

    def test_text_span(self):
        self.assert_answer((Span([[1, 1], [1, 1]]), ["a", None]), text_span, signs="a", length=1)
        self.assert_answer((Span([[1, 2, 2], [2, 2, 2], [2, 2, 2]]), ["z", "zz", None]), text_span, signs="z", length=2)
        self.assert_answer((Span([[2] * 3] * 3), ["a", "b", None]), text_span, signs="ab", length=1)
        span, texts = text_span("bz", 2)
        self.assertEqual(texts, ["b", "z", "bb", "bz", "zb", "zz", None])
        self.assertEqual(span.products, [[2, 3, 6, 6, 6, 6, 6], [4, 5, 6, 6, 6, 6, 6]] + [[6] * 7] * 5)

    def test_texts_put_together(self):
        for signs, length in (("a", 1), ("a", 4), ("a", 13), ("ab", 1), ("ab", 2), ("cx", 2)):
            span, texts = text_span(signs, length)
            self.assertIs(type(texts), list)
            self.assertEqual(texts[-1], None)
            told = [text for many in range(1, length + 1) for text in map("".join, itertools.product(signs, repeat=many))]
            self.assertEqual(texts[:-1], told)
            for i, one in enumerate(texts):
                for j, other in enumerate(texts):
                    whole = None if one is None or other is None or len(one + other) > length else one + other
                    self.assertEqual(span.products[i][j], texts.index(whole))

    def test_turned_span(self):
        self.assert_answer(Span([[0, 1], [0, 1]]), turned_span, span=Span(LEFT))
        self.assert_answer(Span(FLIP), turned_span, span=Span(FLIP))
        self.assert_answer(Span([[0]]), turned_span, span=Span([[0]]))
        for span in some_spans():
            products, other = span.products, turned_span(span).products
            for i, j in itertools.product(range(span.size), repeat=2):
                self.assertEqual(other[i][j], products[j][i])

    def test_beside_span(self):
        self.assert_answer(Span(LEFT), beside_span, one=Span(LEFT), other=Span([[0]]))
        self.assert_answer(Span(LEFT), beside_span, one=Span([[0]]), other=Span(LEFT))
        found = Span([[0, 1, 0, 1], [1, 0, 1, 0], [2, 3, 2, 3], [3, 2, 3, 2]])
        self.assert_answer(found, beside_span, one=Span(LEFT), other=Span(FLIP))
        three = Span([[0, 1, 2], [1, 2, 0], [2, 0, 1]])
        for one, other in ((three, Span(LEFT)), (Span(LEFT), three), (text_span("ab", 2)[0], Span(FLIP))):
            found = beside_span(one, other)
            wide = other.size
            self.assertEqual(found.size, one.size * wide)
            for i, k in itertools.product(range(one.size), repeat=2):
                for j, m in itertools.product(range(wide), repeat=2):
                    self.assertEqual(found.products[i * wide + j][k * wide + m],
                                     one.products[i][k] * wide + other.products[j][m])

    def test_keeps_span(self):
        flip, left = Span(FLIP), Span(LEFT)
        self.assert_answer(True, keeps_span, span=flip, other=flip, places=[0, 1])
        self.assert_answer(True, keeps_span, span=flip, other=flip, places=[0, 0])
        self.assert_answer(False, keeps_span, span=flip, other=flip, places=[1, 0])
        self.assert_answer(False, keeps_span, span=flip, other=flip, places=[1, 1])
        self.assert_answer(True, keeps_span, span=left, other=left, places=[1, 0])
        self.assert_answer(True, keeps_span, span=flip, other=Span([[0]]), places=[0, 0])
        self.assert_answer(True, keeps_span, span=Span([[0]]), other=left, places=[1])
        self.assert_answer(False, keeps_span, span=Span([[0]]), other=flip, places=[1])
        self.assert_answer(False, keeps_span, span=left, other=turned_span(left), places=[0, 1])
        pairs = beside_span(left, flip)
        self.assert_answer(True, keeps_span, span=pairs, other=left, places=[0, 0, 1, 1])
        self.assert_answer(True, keeps_span, span=pairs, other=flip, places=[0, 1, 0, 1])
        self.assert_answer(False, keeps_span, span=pairs, other=flip, places=[0, 1, 1, 0])

    def test_keeps_span_against_all_pairs(self):
        spans = [Span(table) for table in all_tables(2)] + [Span([[0]]), text_span("a", 2)[0], text_span("ab", 1)[0]]
        for one, other in itertools.product(spans, repeat=2):
            for places in itertools.product(range(other.size), repeat=one.size):
                told = all(places[one.products[i][j]] == other.products[places[i]][places[j]]
                           for i, j in itertools.product(range(one.size), repeat=2))
                self.assertIs(keeps_span(one, other, list(places)), told)

    def test_lengths_of_texts_are_kept(self):
        one, many = text_span("a", 2)[0], text_span("ab", 2)[0]
        self.assertTrue(keeps_span(many, one, [0, 0, 1, 1, 1, 1, 2]))
        self.assertFalse(keeps_span(many, one, [0, 0, 1, 1, 1, 2, 2]))


class Refused(Checks, unittest.TestCase):

    def test_invalid_kind(self):
        span, lots = Span(FLIP), [("A", [9]), ("a", [7])]
        self.assert_refused(InvalidKind, BAD, lot_of, span, behind(A, behind(BAD, WORSE)), lots)
        self.assert_refused(InvalidKind, ODD, lot_of, span=span, kind=ODD, lots=[])
        self.assert_refused(InvalidKind, WORSE, row_lot, span, [A, WORSE, BAD], lots)
        self.assert_refused(InvalidKind, ODD, row_lot, span=span, row=[ODD], lots=[])
        self.assert_refused(InvalidKind, BAD, first_outside, span, [A, BAD], WORSE, lots)
        self.assert_refused(InvalidKind, WORSE, first_outside, span, [], ahead(A, WORSE), lots)
        self.assert_refused(InvalidKind, ODD, first_outside, span=span, row=[A], kind=ODD, lots=[])

    def test_invalid_row(self):
        span, lots = Span(FLIP), [("A", [9])]
        self.assert_refused(InvalidRow, [], row_lot, span, [], lots)
        self.assert_refused(InvalidRow, [], first_outside, span, [], A, lots)
        self.assert_refused(InvalidRow, [], first_outside, span=span, row=[], kind=A, lots=[])

    def calls(self, lots):
        span = Span(FLIP)
        return [(lot_of, (span, A, lots)), (row_lot, (span, [A, B], lots)), (first_outside, (span, [A], B, lots))]

    def test_invalid_letter_of_lots(self):
        for text in WRONG_LETTERS:
            for function, told in self.calls([("a", [9]), (text, [5]), ("a", [0])]):
                self.assert_refused(InvalidLetter, text, function, *told)
        for function, told in self.calls([("b", [9]), ("a", [0]), ("z", []), ("a", [0]), ("B", [])]):
            self.assert_refused(InvalidLetter, "a", function, *told)
        self.assert_refused(InvalidLetter, "b", lot_of, span=Span(FLIP), kind=A, lots=[("b", []), ("b", [])])

    def test_invalid_lot(self):
        for lot in ([2], [-1], [0, 0], [1, 0], [0, 1, 1], [0, 1, 2], [100], [1, 0, 1], [-1, 0]):
            for function, told in self.calls([("a", [0, 1]), ("z", lot), ("b", [7])]):
                self.assert_refused(InvalidLot, lot, function, *told)
        self.assert_refused(InvalidLot, [1], row_lot, span=Span([[0]]), row=[A], lots=[("a", [1])])

    def test_text_span(self):
        for signs in ("", "A", "aa", "ba", "abc", "a1", "a ", " ", "aB", "{"):
            self.assert_refused(InvalidLetter, signs, text_span, signs, 0)
            self.assert_refused(InvalidLetter, signs, text_span, signs=signs, length=1)
        for length in (0, -1, -100):
            self.assert_refused(InvalidNumber, length, text_span, "ab", length)
            self.assert_refused(InvalidNumber, length, text_span, signs="z", length=length)

    def test_keeps_span(self):
        span, other = Span(FLIP), text_span("a", 2)[0]
        for places in ([], [0], [0, 1, 2], [0, 3], [-1, 0], [0, -1], [3, 0], [0, 0, 0]):
            self.assert_refused(InvalidLot, places, keeps_span, span, other, places)
            self.assert_refused(InvalidLot, places, keeps_span, span=span, other=other, places=places)
        self.assert_refused(InvalidLot, [0, 2], keeps_span, other, span, [0, 2])
        self.assert_refused(InvalidLot, [0, 1, 2], keeps_span, other, span, [0, 1, 2])

    def test_lists_that_errors_hold_are_new(self):
        products, lot, places = [[0, 1], [1]], [1, 0], [5]
        for function, told, value in ((Span, (products,), products), (lot_of, (Span(FLIP), A, [("a", lot)]), lot),
                                      (keeps_span, (Span(FLIP), Span(FLIP), places), places)):
            with self.assertRaises(WaitError) as caught:
                function(*told)
            caught.exception.value.append(8)
            if value is products:
                caught.exception.value[0].append(8)
        self.assertEqual([products, lot, places], [[[0, 1], [1]], [1, 0], [5]])

    def test_behind_a_refused_call_all_is_as_ahead(self):
        span = Span(LEFT)
        self.assert_as_ahead([
            (Span, (FLIP,), ([[1, 0], [0, 0]],)), (lot_of, (span, AB, [("a", [0])]), (span, ODD, [])),
            (row_lot, (span, [A, B], [("a", [0]), ("b", [1])]), (span, [], [])),
            (first_outside, (span, [A], B, [("a", [0])]), (span, [A], B, [("a", [3])])),
            (text_span, ("ab", 2), ("ba", 2)), (keeps_span, (span, span, [1, 0]), (span, span, [1, 2])),
        ])
        self.assertEqual(laid_out(span), ["a span", LEFT])

    def test_answers_are_new(self):
        span = Span(LEFT)
        lots = [("a", [0, 1]), ("s", [1])]
        for function, told in ((lot_of, (span, A, lots)), (row_lot, (span, [A], lots)), (lot_of, (span, AS, lots))):
            ahead_of_it = function(*told)
            function(*told).append(9)
            self.assertEqual(function(*told), ahead_of_it)
        text_span("a", 2)[1].append("b")
        self.assertEqual(text_span("a", 2)[1], ["a", "aa", None])
        self.assertEqual(lots, [("a", [0, 1]), ("s", [1])])


if __name__ == "__main__":
    unittest.main()
