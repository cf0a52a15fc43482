"""The names and arguments of the document's interface, each in its own file."""

import importlib
import inspect
import unittest

FUNCTIONS = {
    "kinds": """letters(kind) size(kind) depth(kind) is_single(kind) turned(kind) turned_row(row)
        swapped(kind,letter,other) lifted(kind,other,behind) balance(row) word(row) puts(kind,other) common(one,other)""",
    "readings": """width(reading) kind_of(row,reading) is_short(reading) is_long(row,reading) steps(reading)
        after_step(reading,place) shortened(reading) long_form(row,reading) put_in(reading,at,other)
        turned_reading(reading) same_readings(row,one,other)""",
    "papers": """shown(paper) paper_for(row,kind) has_cut(paper) without_cut(paper) put_behind(one,other)
        turned_paper(paper) reading_of_paper(paper) paper_of(row,reading)""",
    "terms": """term_of(reading,names) reading_of(term) names_of(term) same_terms(one,other) renamed(term,name,other)
        put_for(term,name,other) term_step(term) short_term(term)""",
    "values": """how_many_things(kind,sizes) things(kind,sizes) place_of(kind,sizes,thing) worth(row,reading,sizes,told)
        worths(row,reading,sizes) first_unlike_worth(row,one,other,sizes)""",
    "finding": """comes_to(row,kind) leads_to(one,other) same_kinds(one,other) readings_of(row,kind) how_many(row,kind)
        kinds_of(row,signs,most) above(one,other,low) below(one,other,high)""",
    "links": "line(row,kind) links(row,kind,reading) reading_by(row,kind,told) is_crossed(told) owners(row,kind)",
    "cancelling": "plain_kinds(row) comes_plainly(row,kind) plain_readings(row,kind) chart(row)",
    "middles": "middle(row,start,end,kind) middle_papers(row,start,end,kind)",
    "texts": """show_kind(kind) show_row(row) show_reading(reading) show_paper(paper) show_tree(tree)
        show_book(book)""",
}


class Interface(unittest.TestCase):

    def test_functions(self):
        for name, told in FUNCTIONS.items():
            module = importlib.import_module("waitwords." + name)
            for text in told.split():
                title, arguments = text.rstrip(")").split("(")
                function = getattr(module, title)
                self.assertTrue(inspect.isfunction(function))
                self.assertEqual(function.__module__, "waitwords." + name)
                parameters = inspect.signature(function).parameters.values()
                self.assertEqual([one.name for one in parameters], arguments.split(","))
                for one in parameters:
                    self.assertIs(one.kind, inspect.Parameter.POSITIONAL_OR_KEYWORD)
                    self.assertIs(one.default, inspect.Parameter.empty)


if __name__ == "__main__":
    unittest.main()
