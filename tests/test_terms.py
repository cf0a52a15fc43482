"""terms.py: what the functions answer."""

import unittest

from samples import A, AB, AS, B, BOTH, C, LIFT, WORD, Checks, ahead, all_readings, next_readings, some_readings
from waitwords.readings import after_step, put_in, shortened, steps, width
from waitwords.terms import names_of, put_for, reading_of, renamed, same_terms, short_term, term_of, term_step

X, Y, Z = [("name", name) for name in "xyz"]
LIFTED = ("givebehind", "g", ahead(A, B), ("ahead", X, ("name", "g")))
BACK = ("behind", LIFTED, Y)


def name(text):
    return ("name", text)


def some_names(many):
    return ["n" + "abcdefghijklmnopqrstuvwxyz"[at // 26] + "abcdefghijklmnopqrstuvwxyz"[at % 26] for at in range(many)]


def put_by_names(term, told, other):
    """The term with another one for a name; no given name is changed."""
    if term[0] == "name":
        return other if term[1] == told else term
    if term[0] in ("behind", "ahead"):
        return (term[0], put_by_names(term[1], told, other), put_by_names(term[2], told, other))
    return term[:3] + (put_by_names(term[3], told, other),)


def gives_of(term):
    if term[0] == "name":
        return []
    if term[0] in ("behind", "ahead"):
        return gives_of(term[1]) + gives_of(term[2])
    return [term[1]] + gives_of(term[3])


def stands(term):
    """The names as they stand in a term as a "name"."""
    if term[0] == "name":
        return [term[1]]
    inner = term[1:] if term[0] in ("behind", "ahead") else term[3:]
    return [one for part in inner for one in stands(part)]


class ThereAndBack(Checks, unittest.TestCase):

    def test_term_of(self):
        self.assert_answer(X, term_of, reading=WORD, names=["x"])
        self.assert_answer(name("abcdefgh"), term_of, reading=WORD, names=["abcdefgh"])
        self.assert_answer(("behind", X, Y), term_of, reading=BOTH, names=["x", "y"])
        self.assert_answer(("ahead", Y, X), term_of, reading=("ahead", WORD, WORD), names=["y", "x"])
        self.assert_answer(("givebehind", "a", ahead(A, B), ("ahead", X, name("a"))), term_of, reading=LIFT, names=["x"])
        self.assert_answer(("givebehind", "b", ahead(A, B), ("ahead", name("a"), name("b"))), term_of,
                           reading=LIFT, names=["a"])
        self.assert_answer(("giveahead", "a", A, ("behind", name("a"), name("b"))), term_of,
                           reading=("giveahead", A, BOTH), names=["b"])

    def test_given_names_go_outside_first_from_the_left(self):
        three = ("behind", ("behind", WORD, WORD), WORD)
        self.assert_answer(("givebehind", "a", B, ("givebehind", "b", A, ("behind", ("behind", X, name("a")), name("b")))),
                           term_of, reading=("givebehind", B, ("givebehind", A, three)), names=["x"])
        self.assert_answer(("giveahead", "a", B, ("givebehind", "c", A, ("behind", ("behind", name("a"), name("b")),
                                                                         name("c")))),
                           term_of, reading=("giveahead", B, ("givebehind", A, three)), names=["b"])
        self.assert_answer(("behind", ("givebehind", "a", A, ("behind", Y, name("a"))),
                            ("givebehind", "b", A, ("behind", X, name("b")))),
                           term_of, reading=("behind", ("givebehind", A, BOTH), ("givebehind", A, BOTH)), names=["y", "x"])
        self.assert_answer(("behind", ("givebehind", "c", A, ("behind", name("b"), name("c"))),
                            ("givebehind", "d", A, ("behind", name("a"), name("d")))),
                           term_of, reading=("behind", ("givebehind", A, BOTH), ("givebehind", A, BOTH)), names=["b", "a"])

    def test_names_beyond_z(self):
        reading = WORD
        for _ in range(60):
            reading = ("behind", reading, WORD)
        for _ in range(60):
            reading = ("givebehind", A, reading)
        letters = list("abcdefghijklmnopqrstuvwxyz")
        told = letters + ["a" + letter for letter in letters] + ["b" + letter for letter in letters]
        self.assertEqual(gives_of(term_of(reading, ["x"])), [one for one in told if one != "x"][:60])
        self.assertEqual(gives_of(term_of(reading, ["aa"])), [one for one in told if one != "aa"][:60])
        self.assertEqual(gives_of(term_of(reading, ["bbb"])), told[:60])
        self.assertEqual(reading_of(term_of(reading, ["aa"])), reading)

    def test_reading_of(self):
        self.assert_answer(WORD, reading_of, term=X)
        self.assert_answer(LIFT, reading_of, term=LIFTED)
        self.assert_answer(("behind", LIFT, WORD), reading_of, term=BACK)
        self.assert_answer(("giveahead", AB, ("ahead", WORD, BOTH)), reading_of,
                           term=("giveahead", "q", AB, ("ahead", name("q"), ("behind", X, Y))))

    def test_names_of(self):
        self.assert_answer(["x"], names_of, term=X)
        self.assert_answer(["x"], names_of, term=LIFTED)
        self.assert_answer(["x", "y"], names_of, term=BACK)
        self.assert_answer(["y", "x"], names_of, term=("ahead", Y, LIFTED))
        self.assert_answer(["z", "y"], names_of, term=("giveahead", "x", A, ("behind", ("ahead", X, Z), Y)))

    def test_there_and_back(self):
        for reading in all_readings(8, (A, AS)):
            names = some_names(width(reading))
            term = term_of(reading, names)
            self.assertEqual([names_of(term), reading_of(term)], [names, reading])
            given = gives_of(term)
            self.assertEqual(given, list("abcdefgh")[:len(given)])
            self.assertEqual(sorted(stands(term)), sorted(names + given))
            self.assertTrue(same_terms(term_of(reading_of(term), names_of(term)), term))

    def test_same_terms(self):
        other = ("givebehind", "h", ahead(A, B), ("ahead", X, name("h")))
        self.assert_answer(True, same_terms, one=LIFTED, other=LIFTED)
        self.assert_answer(True, same_terms, one=LIFTED, other=other)
        self.assert_answer(True, same_terms, one=X, other=X)
        self.assert_answer(False, same_terms, one=X, other=Y)
        self.assert_answer(False, same_terms, one=LIFTED, other=("givebehind", "g", ahead(A, B), ("ahead", Y, name("g"))))
        self.assert_answer(False, same_terms, one=LIFTED, other=("givebehind", "g", AS, ("ahead", X, name("g"))))
        self.assert_answer(False, same_terms, one=("behind", X, Y), other=("ahead", X, Y))
        self.assert_answer(False, same_terms, one=("behind", X, Y), other=("behind", Y, X))
        self.assert_answer(False, same_terms, one=BACK, other=LIFTED)
        swapped = ("givebehind", "z", A, ("givebehind", "y", B, ("behind", ("behind", X, Z), Y)))
        turned = ("givebehind", "y", A, ("givebehind", "z", B, ("behind", ("behind", X, Y), Z)))
        self.assert_answer(True, same_terms, one=swapped, other=turned)


class OtherNames(Checks, unittest.TestCase):

    def test_renamed(self):
        self.assert_answer(Y, renamed, term=X, name="x", other="y")
        self.assert_answer(X, renamed, term=X, name="x", other="x")
        self.assert_answer(BACK, renamed, term=BACK, name="y", other="y")
        self.assert_answer(("behind", LIFTED, Z), renamed, term=BACK, name="y", other="z")

    def test_a_given_name_that_stands_in_what_is_put_in(self):
        self.assert_answer(("givebehind", "a", ahead(A, B), ("ahead", name("g"), name("a"))), renamed,
                           term=LIFTED, name="x", other="g")
        term = ("givebehind", "a", A, ("giveahead", "b", B, ("behind", ("behind", name("b"), X), name("a"))))
        self.assert_answer(("givebehind", "c", A, ("giveahead", "b", B, ("behind", ("behind", name("b"), name("a")),
                                                                         name("c")))), renamed,
                           term=term, name="x", other="a")
        self.assert_answer(("givebehind", "a", A, ("giveahead", "c", B, ("behind", ("behind", name("c"), name("b")),
                                                                         name("a")))), renamed,
                           term=term, name="x", other="b")
        # The replaced name is taken, too, and the elder given ones.
        term = ("givebehind", "c", A, ("giveahead", "b", B, ("behind", ("behind", name("b"), name("a")), name("c"))))
        both = ("behind", name("b"), name("c"))
        self.assert_answer(("givebehind", "d", A, ("giveahead", "e", B, ("behind", ("behind", name("e"), both),
                                                                         name("d")))), put_for,
                           term=term, name="a", other=both)

    def test_put_for(self):
        self.assert_answer(LIFTED, put_for, term=X, name="x", other=LIFTED)
        self.assert_answer(("behind", LIFTED, Y), put_for, term=("behind", Z, Y), name="z", other=LIFTED)
        self.assert_answer(("behind", X, Y), put_for, term=("behind", X, Y), name="x", other=X)
        self.assert_answer(("givebehind", "g", ahead(A, B), ("ahead", ("behind", Y, Z), name("g"))), put_for,
                           term=LIFTED, name="x", other=("behind", Y, Z))
        self.assert_answer(("ahead", Y, ("behind", Z, X)), put_for, term=("ahead", Y, X), name="x", other=("behind", Z, X))

    def test_a_given_name_of_what_is_put_in(self):
        # It stands in the term as not given: it is named anew.
        other = ("givebehind", "y", ahead(A, B), ("ahead", Z, Y))
        self.assert_answer(("behind", ("givebehind", "a", ahead(A, B), ("ahead", Z, name("a"))), Y), put_for,
                           term=("behind", X, Y), name="x", other=other)
        # It is the replaced one: it stays.
        self.assert_answer(("behind", X, other), put_for, term=("behind", X, Y), name="y", other=other)
        # It is given in the term, too: that of the term is named anew.
        term = ("givebehind", "y", A, ("behind", X, Y))
        self.assert_answer(("givebehind", "a", A, ("behind", other, name("a"))), put_for, term=term, name="x", other=other)
        # The replaced name is given in what is put in, and the term's given one stands there.
        other = ("givebehind", "x", ahead(A, B), ("ahead", Y, X))
        self.assert_answer(("givebehind", "a", A, ("behind", other, name("a"))), put_for, term=term, name="x", other=other)

    def test_the_terms_given_names_come_first(self):
        term = ("behind", ("givebehind", "p", A, ("behind", X, name("p"))), Y)
        other = ("behind", ("givebehind", "y", A, ("behind", name("p"), Y)), Z)
        told = ("behind", ("givebehind", "a", A, ("behind", ("behind", ("givebehind", "b", A, (
            "behind", name("p"), name("b"))), Z), name("a"))), Y)
        self.assert_answer(told, put_for, term=term, name="x", other=other)

    def test_a_given_name_that_stands_elsewhere_alone(self):
        # It meets no name: it stays.
        term = ("behind", ("givebehind", "a", A, ("behind", X, name("a"))), Y)
        self.assert_answer(("behind", ("givebehind", "a", A, ("behind", X, name("a"))), name("b")), renamed,
                           term=term, name="y", other="b")
        self.assert_answer(("behind", ("givebehind", "b", A, ("behind", X, name("b"))), name("a")), renamed,
                           term=term, name="y", other="a")

    def test_puts_keep_the_reading(self):
        terms = [term_of(reading, some_names(width(reading))) for reading in all_readings(6)]
        for term in terms[::3]:
            for other in terms[::7]:
                for at, one in enumerate(names_of(term)):
                    inner = term_of(reading_of(other), ["x" + text for text in names_of(other)])
                    found = put_for(term, one, inner)
                    free = names_of(term)
                    self.assertEqual(names_of(found), free[:at] + names_of(inner) + free[at + 1:])
                    self.assertEqual(reading_of(found), put_in(reading_of(term), at, reading_of(other)))


class Steps(Checks, unittest.TestCase):

    def test_term_step(self):
        self.assert_answer(None, term_step, term=X)
        self.assert_answer(None, term_step, term=LIFTED)
        self.assert_answer(("ahead", X, Y), term_step, term=BACK)
        self.assert_answer(("behind", Y, X), term_step,
                           term=("behind", ("givebehind", "g", A, ("behind", Y, name("g"))), X))
        self.assert_answer(("behind", Y, X), term_step, term=("ahead", Y, ("giveahead", "g", A, ("behind", name("g"), X))))

    def test_the_first_step(self):
        inner = ("behind", ("givebehind", "h", A, ("behind", Y, name("h"))), Z)
        outer = ("behind", LIFTED, inner)
        self.assert_answer(("ahead", X, inner), term_step, term=outer)
        self.assert_answer(("ahead", X, ("behind", Y, Z)), short_term, term=outer)
        two = ("ahead", BACK, ("behind", ("givebehind", "h", A, ("behind", Z, name("h"))), name("q")))
        self.assert_answer(("ahead", ("ahead", X, Y), two[2]), term_step, term=two)

    def test_short_term(self):
        self.assert_answer(X, short_term, term=X)
        self.assert_answer(LIFTED, short_term, term=LIFTED)
        self.assert_answer(("ahead", X, Y), short_term, term=BACK)
        waits = ("giveahead", "h", A, ("ahead", name("h"), Y))
        self.assert_answer(("ahead", X, Y), short_term, term=("behind", LIFTED, waits))

    def test_steps_of_terms_and_of_readings(self):
        stepped = 0
        for reading in all_readings(8) + [reading for _, reading in some_readings(200)]:
            term = term_of(reading, some_names(width(reading)))
            told = steps(reading)
            found = term_step(term)
            self.assertEqual(reading_of(short_term(term)), shortened(reading))
            self.assertEqual(names_of(short_term(term)), names_of(term))
            if not told:
                self.assertIsNone(found)
                continue
            stepped += 1
            self.assertEqual(reading_of(found), after_step(reading, told[0]))
            self.assertEqual(reading_of(found), next_readings(reading)[0][1])
            self.assertEqual(names_of(found), names_of(term))
            self.assertTrue(same_terms(short_term(found), short_term(term)))
        self.assertGreater(stepped, 100)

    def test_a_step_puts_for_the_given_name(self):
        for reading in all_readings(8):
            if reading[0] == "behind" and reading[1][0] == "givebehind":
                term = term_of(reading, some_names(width(reading)))
                self.assertEqual(term_step(term), put_by_names(term[1][3], term[1][1], term[2]))


if __name__ == "__main__":
    unittest.main()
