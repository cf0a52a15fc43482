"""The names and arguments of the document's interface, each in its own file."""

import importlib
import inspect
import unittest

FUNCTIONS = {
    "kinds": """letters(kind) size(kind) depth(kind) is_single(kind) turned(kind) turned_row(row)
        swapped(kind,letter,other) lifted(kind,other,behind) balance(row) word(row) puts(kind,other) common(one,other)""",
    "readings": """width(reading) kind_of(row,reading) is_short(reading) is_long(row,reading) steps(reading)
        after_step(reading,place) shortened(reading) long_form(row,reading) put_in(reading,at,other)
        turned_reading(reading) same_readings(row,one,other)""",
    "papers": """shown(paper) paper_for(row,kind) has_cut(paper) without_cut(paper) put_behind(one,other)
        turned_paper(paper) reading_of_paper(paper) paper_of(row,reading)""",
    "terms": """term_of(reading,names) reading_of(term) names_of(term) same_terms(one,other) renamed(term,name,other)
        put_for(term,name,other) term_step(term) short_term(term)""",
    "values": """how_many_things(kind,sizes) things(kind,sizes) place_of(kind,sizes,thing) worth(row,reading,sizes,told)
        worths(row,reading,sizes) first_unlike_worth(row,one,other,sizes)""",
    "finding": """comes_to(row,kind) leads_to(one,other) same_kinds(one,other) readings_of(row,kind) how_many(row,kind)
        kinds_of(row,signs,most) above(one,other,low) below(one,other,high)""",
    "links": "line(row,kind) links(row,kind,reading) reading_by(row,kind,told) is_crossed(told) owners(row,kind)",
    "cancelling": "plain_kinds(row) comes_plainly(row,kind) plain_readings(row,kind) chart(row)",
    "middles": "middle(row,start,end,kind) middle_papers(row,start,end,kind)",
    "chains": """are_joined(one,other) chain(one,other) chain_kinds(one,steps) back_chain(steps) turned_chain(steps)
        plain_form(told,letter)""",
    "spans": """lot_of(span,kind,lots) row_lot(span,row,lots) first_outside(span,row,kind,lots) text_span(signs,length)
        turned_span(span) beside_span(one,other) keeps_span(span,other,places)""",
    "books": """kind_rows(book,words) comes(book,words,kind) readings_in(book,words,kind) rows_of(book,length,kind)
        first_row_of(book,kind,most) first_unlike(one,other,kind,most) needless(book,kind,most)
        joined_books(one,other) swapped_book(book,letter,other) turned_book(book)""",
    "rules": """is_flat(kind) rule_of(word,kind) rules(book) kind_of_rule(rule) numbers(book,letter,most)
        least_length(book,letter) is_endless(book,letter) greatest_length(book,letter) useless(book,letter)
        nth_list(book,letter,length,number)""",
    "gaps": """need_behind(row,kind) need_ahead(row,kind) need_between(before,after,kind)
        fillers(row,at,kind,signs,most) words_for(book,words,at,kind) completed(book,words,kind,most)
        gaps(book,words,kind)""",
    "learning": """leaves(tree) general(trees,letter) unified(pairs) least_book(trees,letter) lets(book,tree,letter)
        fits(book,other,letter)""",
    "readers": """read_kind(text) read_row(text) read_reading(text) read_paper(text) read_tree(text) read_book(text)""",
    "texts": """show_kind(kind) show_row(row) show_reading(reading) show_paper(paper) show_tree(tree)
        show_book(book)""",
}

# Of each class the file, the methods, and the properties.
CLASSES = {
    "Span": ("spans", "__init__(self,products) __eq__(self,other)", "products size"),
    "Book": ("books", "__init__(self,entries) words(self) kinds(self,word) __len__(self) __eq__(self,other)", "entries"),
    "Desk": ("desks", """__init__(self,book) forks(self) names(self) __len__(self) put(self,name,kind)
        make(self,name,deed) teach(self,word,name) forget(self,word,name) drop(self,name) branch(self,name)
        switch(self,name) undo(self) kind(self,name) comes(self,names,name) count(self,names,name)
        lets(self,words,name) same_as(self,name) order(self,text)""", "book fork"),
}


class Interface(unittest.TestCase):

    def test_functions(self):
        for name, told in FUNCTIONS.items():
            module = importlib.import_module("waitwords." + name)
            for text in told.split():
                title, arguments = text.rstrip(")").split("(")
                self.check(getattr(module, title), "waitwords." + name, arguments)

    def test_classes(self):
        for title, (name, methods, told) in CLASSES.items():
            made = getattr(importlib.import_module("waitwords." + name), title)
            self.assertTrue(inspect.isclass(made))
            self.assertEqual([made.__module__, made.__bases__], ["waitwords." + name, (object,)])
            for text in methods.split():
                method, arguments = text.rstrip(")").split("(")
                self.check(vars(made)[method], "waitwords." + name, arguments)
            for text in told.split():
                self.assertIsInstance(vars(made)[text], property)

    def check(self, function, module, arguments):
        self.assertTrue(inspect.isfunction(function))
        self.assertEqual(function.__module__, module)
        parameters = inspect.signature(function).parameters.values()
        self.assertEqual([one.name for one in parameters], arguments.split(","))
        for one in parameters:
            self.assertIs(one.kind, inspect.Parameter.POSITIONAL_OR_KEYWORD)
            self.assertIs(one.default, inspect.Parameter.empty)


if __name__ == "__main__":
    unittest.main()
