"""What [9] promises, sentence by sentence, where one part of the program is passed what another one told."""

import itertools
import random
import unittest

from bookways import some_books
from samples import A, B, WORD, Checks, ahead, behind, laid_out
from slowways import any_row_of_one_word, slow_comes
from waitwords.books import Book, comes, kind_rows, readings_in, rows_of, swapped_book, turned_book
from waitwords.cancelling import comes_plainly, plain_kinds
from waitwords.chains import are_joined, chain, chain_kinds
from waitwords.desks import Desk
from waitwords.errors import NotLeading
from waitwords.finding import above, below, comes_to, how_many, leads_to, readings_of
from waitwords.gaps import completed, fillers, need_ahead, need_behind, need_between, words_for
from waitwords.kinds import balance, swapped, turned, turned_row, word
from waitwords.learning import fits, least_book, leaves, lets
from waitwords.links import is_crossed, links, reading_by
from waitwords.middles import middle_papers
from waitwords.papers import has_cut, paper_for, paper_of, put_behind, reading_of_paper, shown, turned_paper, without_cut
from waitwords.readers import read_book, read_kind, read_paper, read_reading, read_row, read_tree
from waitwords.readings import after_step, kind_of, long_form, same_readings, shortened, steps, turned_reading
from waitwords.rules import is_flat, nth_list, numbers, useless
from waitwords.spans import first_outside, text_span
from waitwords.terms import reading_of, same_terms, short_term, term_of, term_step
from waitwords.texts import show_book, show_kind, show_paper, show_reading, show_row, show_tree
from waitwords.values import first_unlike_worth

SIZES = [("a", 1), ("b", 2)]


def coming_rows(many, texts=("behind", "ahead")):
    """Tuples (row, kind) of rows that come, read from their own texts, always the same ones."""
    chance = random.Random(121)
    found = []
    while len(found) < many:
        row, kind = any_row_of_one_word(chance, chance.choice([4, 6, 8]), 4, "ab"[:1 + len(found) % 2], texts)
        if slow_comes(tuple(row), kind):
            found.append((read_row(show_row(row)), read_kind(show_kind(kind))))
    return found


class Promises(Checks, unittest.TestCase):

    def test_papers_and_readings_through_their_texts(self):
        for row, kind in coming_rows(150):
            paper = read_paper(show_paper(paper_for(row, kind)))
            self.assertEqual(shown(paper), (row, kind))
            self.assertFalse(has_cut(paper))
            told = readings_of(row, kind)
            self.assertIn(read_reading(show_reading(reading_of_paper(paper))), told)
            self.assertEqual([show_reading(reading) for reading in told], sorted(map(show_reading, told)))
            for reading in told:
                other = paper_of(row, read_reading(show_reading(reading)))
                self.assertEqual([shown(other), reading_of_paper(other)], [(row, kind), reading])
            self.assertEqual([word(row), balance(row)], [word([kind]), balance([kind])])

    def test_unlike_readings_have_unlike_links_that_never_cross(self):
        for row, kind in coming_rows(150):
            told = [links(row, kind, reading) for reading in readings_of(row, kind)]
            self.assertEqual(len({tuple(one) for one in told}), how_many(row, kind))
            for one, reading in zip(told, readings_of(row, kind)):
                self.assertFalse(is_crossed(one))
                self.assertEqual(reading_by(row, kind, one), reading)

    def test_turned_rows_have_the_turned_readings(self):
        for row, kind in coming_rows(100):
            around = sorted(map(turned_reading, readings_of(row, kind)), key=show_reading)
            self.assertEqual(readings_of(turned_row(row), turned(kind)), around)
            self.assertEqual(shown(turned_paper(paper_for(row, kind))), (turned_row(row), turned(kind)))

    def test_one_long_form_whatever_the_order_of_steps(self):
        chance = random.Random(122)
        for row, kind in coming_rows(80):
            for reading in readings_of(row, kind):
                # A detour: given back and taken at once, where the row has a kind to give.
                if len(row) > 1:
                    whole = ("behind", ("givebehind", row[-1], reading), WORD)
                    self.assertEqual(long_form(row, whole), reading)
                    while steps(whole):
                        whole = after_step(whole, chance.choice(steps(whole)))
                        self.assertTrue(same_readings(row, whole, reading))
                        self.assertIsNone(first_unlike_worth(row, whole, reading, SIZES))
                    self.assertEqual(whole, shortened(whole))

    def test_readings_and_terms_tell_one_another(self):
        for row, kind in coming_rows(100):
            names = ["x", "y", "z", "w"][:len(row)]
            for reading in readings_of(row, kind):
                term = term_of(reading, names)
                self.assertEqual(reading_of(term), reading)
                self.assertTrue(same_terms(term, term_of(reading_of(term), names)))
                detour = ("behind", ("givebehind", B, ("behind", WORD, WORD)), WORD)
                self.assertEqual(reading_of(term_step(term_of(detour, ["x", "y"]))), after_step(detour, []))
                self.assertEqual(reading_of(short_term(term)), shortened(reading))

    def test_put_behind_one_another_and_without_the_detour(self):
        chance = random.Random(123)
        for row, kind in coming_rows(100):
            at = chance.randrange(len(row))
            end = chance.randrange(at, len(row)) + 1
            found, inner, outer = middle_papers(row, at, end, kind)
            self.assertTrue(comes_to(row[at:end], found) and comes_to(row[:at] + [found] + row[end:], kind))
            if end - at == len(row):
                whole = without_cut(put_behind(inner, outer))
                self.assertEqual([shown(whole), has_cut(whole)], [(row, kind), False])

    def test_what_leads_is_joined_by_a_chain_of_one_step_or_more(self):
        for row, kind in coming_rows(250):
            if len(row) == 1:
                self.assertTrue(are_joined(row[0], kind))
                for one, other in ((row[0], kind), (kind, row[0])):
                    told = chain_kinds(one, chain(one, other))
                    self.assertEqual([told[0], told[-1]], [one, other])
                    for low, high in zip(told, told[1:]):
                        self.assertTrue(leads_to(low, high) or leads_to(high, low))

    def test_a_kind_above_two_exactly_if_there_is_one_below(self):
        kinds = [A, B, behind(A, A), ahead(A, A), behind(A, B), ("with", behind(A, A), A), behind(A, ahead(A, A))]
        for one, other in itertools.product(kinds, repeat=2):
            led_from = [low for low in kinds if leads_to(low, one) and leads_to(low, other)]
            for low in led_from:
                high = above(one, other, low)
                self.assertTrue(leads_to(one, high) and leads_to(other, high))
                deep = below(one, other, high)
                self.assertTrue(leads_to(deep, one) and leads_to(deep, other))
            if not are_joined(one, other):
                self.assertEqual(led_from, [])
                self.assertRaises(NotLeading, above, one, other, A)

    def test_lots_of_rows_lie_in_those_of_their_kinds(self):
        span, texts = text_span("ab", 2)
        chance = random.Random(124)
        for row, kind in coming_rows(80) + coming_rows(80, ("behind", "ahead", "with")):
            lots = [(letter, sorted(chance.sample(range(len(texts)), 3))) for letter in "ba"]
            self.assertIsNone(first_outside(span, row, kind, lots))

    def test_needs_tell_what_fills_a_gap(self):
        for row, kind in coming_rows(60):
            row = row[:3]
            if len(row) < 2:
                continue
            for at in range(len(row) + 1):
                need = need_behind(row[:at], kind) if at == len(row) else need_ahead(row, kind) if at == 0 else \
                    need_between(row[:at], row[at:], kind)
                told = fillers(row, at, kind, "ab", 2)
                for one in [A, B] + [(text, low, high) for text in ("behind", "ahead") for low in (A, B) for high in (A, B)]:
                    self.assertIs(leads_to(one, need), one in told)


class Books(Checks, unittest.TestCase):

    def test_books_through_their_texts_desks_and_rows(self):
        came = 0
        for book in some_books(40) + some_books(20, 3, "ab", ("behind", "ahead", "with")):
            self.assertEqual(laid_out(read_book(show_book(book))), laid_out(book))
            desk = Desk(read_book(show_book(book)))
            desk.put("whole", A)
            for length in (1, 2):
                told = rows_of(book, length, A)
                for words in itertools.product(book.words(), repeat=length):
                    words = list(words)
                    self.assertIs(words in told, comes(book, words, A))
                    self.assertIs(words in told, any(comes_to(row, A) for row in kind_rows(book, words)))
                    answer = desk.order("lets " + " ".join(words) + " to whole")
                    self.assertEqual(answer, "yes" if words in told else "no")
                    came += words in told
            for words in rows_of(book, 2, A):
                self.assertTrue(comes(turned_book(book), words[::-1], A))
                self.assertTrue(comes(swapped_book(book, "b", A), words, A))
                self.assertIn(words[1], words_for(book, words[:1], 1, A))
                self.assertLessEqual(len(completed(book, words[:1], A, 1)), 1)
        self.assertGreater(came, 40)

    def test_a_desk_tells_what_the_functions_tell(self):
        for row, kind in coming_rows(80):
            desk = Desk(Book([]))
            names = ["n" + "abcd"[at] for at in range(len(row))]
            for name, one in zip(names, row):
                self.assertEqual(desk.order("put " + name + " " + show_kind(one)), "done")
            desk.put("whole", kind)
            text = " ".join(names) + " to whole"
            self.assertEqual(desk.order("comes " + text), "yes")
            self.assertEqual(desk.order("count " + text), str(how_many(row, kind)))
            self.assertEqual(read_kind(desk.order("show whole")), kind)
            desk.make("whole", ("swapped", "whole", "a", "na"))
            self.assertEqual(desk.kind("whole"), swapped(kind, "a", row[0]))

    def test_flat_books_and_their_least_ones(self):
        for book in some_books(60):
            flat = Book([(name, [kind for kind in kinds if is_flat(kind)]) for name, kinds in book.entries
                         if any(map(is_flat, kinds))])
            unused = useless(flat, "a")
            for length in (1, 2, 3):
                told = rows_of(flat, length, A)
                count = numbers(flat, "a", length)[length]
                parsed = [nth_list(flat, "a", length, number) for number in range(count)]
                self.assertEqual(sorted(map(list, {tuple(words) for words in parsed})), told)
                for words in told:
                    rows = kind_rows(flat, words)
                    self.assertTrue(any(A in plain_kinds(row) for row in rows))
                    self.assertIs(any(comes_plainly(row, A) for row in rows), True)
                    pairs = [pair for row in rows if comes_plainly(row, A) for pair in zip(words, row)]
                    self.assertFalse([pair for pair in pairs if pair in unused])
            if len(flat):
                self.assertEqual(readings_in(flat, flat.words()[:1], A) != [], flat.words()[:1] in rows_of(flat, 1, A))

    def test_the_least_book_of_trees_that_were_read(self):
        trees = [read_tree(text) for text in ("(he < sleeps)", "((the > cat) < sleeps)", "((the > cat) < (sees > he))",
                                              "((the > (old > cat)) < sleeps)")]
        book = least_book(trees, "s")
        self.assertEqual(show_book(book), "he: a ; sleeps: (a\\s) ; the: (a/c) ; cat: c ; sees: ((a\\s)/a) ; old: (c/c)")
        for tree in trees:
            self.assertTrue(lets(book, tree, "s"))
            self.assertEqual(read_tree(show_tree(tree)), tree)
            if len(leaves(tree)) <= 4:
                self.assertTrue(comes(book, leaves(tree), ("plain", "s")))
        other = swapped_book(book, "c", ("with", A, B))
        self.assertEqual(fits(book, other, "s"), [("a", A), ("c", ("with", A, B))])
        self.assertIsNone(fits(other, book, "s"))

    def test_kinds_of_readings_through_texts(self):
        for row, kind in coming_rows(60):
            for reading in readings_of(row, kind):
                self.assertEqual(kind_of(read_row(show_row(row)), read_reading(show_reading(reading))), kind)


if __name__ == "__main__":
    unittest.main()
