"""terms.py: what the functions refuse, and which error comes first."""

import unittest

from samples import A, B, BOTH, DEEP_WITH, LIFT, ODD, WITH, WORD, Checks, ahead, behind
from waitwords.errors import DoubleName, InvalidKind, InvalidName, InvalidReading, InvalidTerm, NotSingle, UnknownName
from waitwords.terms import names_of, put_for, reading_of, renamed, same_terms, short_term, term_of, term_step

X, Y, Z = [("name", name) for name in "xyz"]
BAD = ("plain", "B")
WRONG_NAMES = ["", "A", "abcdefghi", "a1", " a", "a ", "a b", "\u00e9", "aB", "_", "\n"]
LIFTED = ("givebehind", "g", ahead(A, B), ("ahead", X, ("name", "g")))
TAKEN = ("behind", X, X)
OF_A_TERM = [
    reading_of, names_of, term_step, short_term,
    lambda term: same_terms(term, X), lambda term: same_terms(one=X, other=term), lambda term: renamed(term, "q", "q"),
    lambda term: put_for(term, "q", X), lambda term: put_for(term=X, name="q", other=term),
]


def give(text, name, kind, *names):
    """A give of a term in which names take one another."""
    whole = ("name", names[0])
    for one in names[1:]:
        whole = ("behind", whole, ("name", one))
    return (text, name, kind, whole)


class ATerm(Checks, unittest.TestCase):

    def assert_all_refuse(self, error, value, term):
        for function in OF_A_TERM:
            self.assert_refused(error, value, function, term)
        for function in OF_A_TERM[:4]:
            self.assert_refused(error, value, function, term=term)

    def test_invalid_kind(self):
        self.assert_all_refuse(InvalidKind, BAD, give("givebehind", "y", BAD, "x", "y"))
        self.assert_all_refuse(InvalidKind, ODD, give("giveahead", "x", behind(A, ODD), "x", "y"))
        inner = ("ahead", give("givebehind", "y", ODD, "x", "y"), give("givebehind", "n", BAD, "m", "n"))
        self.assert_all_refuse(InvalidKind, ODD, inner)
        self.assert_all_refuse(InvalidKind, BAD, ("givebehind", "m", ahead(BAD, ODD), inner))
        self.assert_all_refuse(InvalidKind, BAD, ("behind", ODD, give("givebehind", "A", BAD, "")))

    def test_not_single(self):
        self.assert_all_refuse(NotSingle, WITH, give("givebehind", "y", WITH, "x", "y"))
        self.assert_all_refuse(NotSingle, DEEP_WITH, ("behind", ODD, give("giveahead", "A", DEEP_WITH, "x", "x")))
        inner = ("ahead", give("givebehind", "y", behind(A, WITH), "x", "y"), give("givebehind", "n", WITH, "m", "n"))
        self.assert_all_refuse(NotSingle, behind(A, WITH), inner)
        self.assert_all_refuse(InvalidKind, BAD, ("ahead", inner, give("givebehind", "y", BAD, "x", "y")))

    def test_invalid_name(self):
        for name in WRONG_NAMES:
            self.assert_all_refuse(InvalidName, name, ("name", name))
            self.assert_all_refuse(InvalidName, name, ("behind", X, ("name", name)))
            self.assert_all_refuse(InvalidName, name, give("givebehind", name, A, "x", "y"))
            self.assert_all_refuse(InvalidName, name, ("ahead", TAKEN, give("giveahead", name, A, "x", "1")))
            self.assert_all_refuse(InvalidName, name, ("ahead", ODD, ("ahead", ("name", name), ("name", "?"))))
        self.assert_all_refuse(InvalidName, "1", ("givebehind", "x", A, ("ahead", ("name", "1"), ("name", "2"))))
        self.assert_all_refuse(InvalidName, "0", ("givebehind", "0", A, ("ahead", ("name", "1"), ("name", "2"))))

    def test_another_first_text(self):
        for part in (ODD, WORD, A, WITH, ("same", A), ("",), ("Name", "x"), ("odd", give("givebehind", "A", BAD, "x"))):
            self.assert_all_refuse(InvalidTerm, part, part)
            self.assert_all_refuse(InvalidTerm, part, ("behind", X, part))
            self.assert_all_refuse(InvalidTerm, part, ("behind", part, ODD))
            self.assert_all_refuse(InvalidTerm, part, ("givebehind", "x", A, ("ahead", part, TAKEN)))
            self.assert_all_refuse(InvalidTerm, part, ("giveahead", "x", A, part))

    def test_lists_in_what_an_error_holds_are_new(self):
        shared = [1]
        with self.assertRaises(InvalidTerm) as caught:
            reading_of(("ahead", X, ("odd", shared, [shared])))
        self.assertEqual(caught.exception.value, ("odd", [1], [[1]]))
        self.assert_unshared(caught.exception.value, shared)

    def test_a_name_that_stands_twice(self):
        self.assert_all_refuse(InvalidTerm, TAKEN, TAKEN)
        self.assert_all_refuse(InvalidTerm, TAKEN, ("behind", Y, TAKEN))
        whole = ("ahead", ("behind", X, Y), ("behind", Z, Y))
        self.assert_all_refuse(InvalidTerm, whole, whole)
        # A given name that stands elsewhere, too, given or not.
        whole = ("behind", give("givebehind", "y", A, "x", "y"), Y)
        self.assert_all_refuse(InvalidTerm, whole, whole)
        whole = ("behind", give("givebehind", "y", A, "x", "y"), give("givebehind", "y", A, "z", "y"))
        self.assert_all_refuse(InvalidTerm, whole, whole)

    def test_what_a_give_may_not_give(self):
        for part in (give("givebehind", "x", A, "x"), give("giveahead", "x", A, "x"), give("givebehind", "y", A, "x"),
                     give("givebehind", "x", A, "x", "y"), give("giveahead", "y", A, "x", "y"),
                     give("givebehind", "z", A, "x", "y"), give("giveahead", "z", A, "x", "y"),
                     give("givebehind", "y", A, "x", "y", "z"), give("giveahead", "y", A, "x", "y", "z"),
                     ("givebehind", "y", A, give("givebehind", "y", A, "z", "x", "y")),
                     ("givebehind", "x", A, give("givebehind", "y", A, "x", "y")),
                     ("giveahead", "x", A, give("giveahead", "x", A, "x", "y", "z"))):
            self.assert_all_refuse(InvalidTerm, part, part)
            self.assert_all_refuse(InvalidTerm, part, ("behind", ("name", "q"), part))

    def test_parts_within_come_ahead_from_the_left(self):
        wrong = give("givebehind", "x", A, "x")
        self.assert_all_refuse(InvalidTerm, TAKEN, ("behind", TAKEN, ODD))
        self.assert_all_refuse(InvalidTerm, ODD, ("behind", ODD, TAKEN))
        self.assert_all_refuse(InvalidTerm, wrong, ("behind", ("behind", wrong, X), TAKEN))
        self.assert_all_refuse(InvalidTerm, TAKEN, ("givebehind", "z", A, ("behind", TAKEN, wrong)))

    def test_both_terms_in_order(self):
        bad_name = ("name", "1")
        for function in (same_terms, lambda one, other: put_for(one, "q", other)):
            self.assert_refused(InvalidTerm, TAKEN, function, TAKEN, ODD)
            self.assert_refused(InvalidTerm, ODD, function, X, ODD)
            self.assert_refused(InvalidName, "1", function, ODD, bad_name)
            self.assert_refused(InvalidName, "1", function, bad_name, ("name", "2"))
            self.assert_refused(NotSingle, WITH, function, bad_name, give("givebehind", "y", WITH, "x", "y"))
            self.assert_refused(InvalidKind, BAD, function, give("givebehind", "y", WITH, "x", "y"),
                                give("givebehind", "y", BAD, "x", "y"))


class OtherNames(Checks, unittest.TestCase):

    def test_invalid_name(self):
        for name in WRONG_NAMES:
            self.assert_refused(InvalidName, name, renamed, X, name, "x")
            self.assert_refused(InvalidName, name, renamed, X, name, "1")
            self.assert_refused(InvalidName, name, renamed, X, "x", name)
            self.assert_refused(InvalidName, name, renamed, term=TAKEN, name="q", other=name)
            self.assert_refused(InvalidName, name, put_for, X, name, ("name", "1"))
            self.assert_refused(InvalidName, name, put_for, X, "x", ("behind", ODD, ("name", name)))
        self.assert_refused(InvalidName, "1", renamed, ("name", "1"), "2", "3")
        self.assert_refused(InvalidName, "1", put_for, ("name", "1"), "2", ("name", "3"))

    def test_unknown_name(self):
        for name in ("y", "g", "a", "xx"):
            self.assert_refused(UnknownName, name, renamed, LIFTED, name, "x")
            self.assert_refused(UnknownName, name, renamed, term=LIFTED, name=name, other=name)
            self.assert_refused(UnknownName, name, put_for, LIFTED, name, ("behind", X, Y))
        self.assert_refused(InvalidTerm, TAKEN, renamed, TAKEN, "q", "x")
        self.assert_refused(InvalidTerm, TAKEN, put_for, X, "q", TAKEN)

    def test_double_name(self):
        both = ("behind", X, Y)
        self.assert_refused(DoubleName, "y", renamed, both, "x", "y")
        self.assert_refused(DoubleName, "x", renamed, term=both, name="y", other="x")
        self.assert_refused(DoubleName, "y", put_for, both, "x", LIFTED[:3] + (("ahead", Y, ("name", "g")),))
        self.assert_refused(DoubleName, "x", put_for, term=both, name="y", other=LIFTED)
        self.assert_refused(UnknownName, "z", renamed, both, "z", "x")

    def test_the_first_double_name_by_its_place_in_what_comes(self):
        three = ("behind", ("behind", X, Y), Z)
        self.assert_refused(DoubleName, "z", put_for, three, "x", ("ahead", Z, Y))
        self.assert_refused(DoubleName, "y", put_for, three, "x", ("ahead", Y, Z))
        self.assert_refused(DoubleName, "x", put_for, three, "z", ("ahead", Y, X))
        self.assert_refused(DoubleName, "x", put_for, three, "y", ("ahead", Z, X))
        self.assert_refused(DoubleName, "z", put_for, ("ahead", Z, ("ahead", X, Y)), "x", ("ahead", Y, Z))

    def test_a_name_put_for_itself_is_not_double(self):
        self.assertEqual(renamed(("behind", X, Y), "x", "x"), ("behind", X, Y))
        self.assertEqual(put_for(("behind", X, Y), "x", ("ahead", Z, X)), ("behind", ("ahead", Z, X), Y))


class OfReadings(Checks, unittest.TestCase):

    def test_invalid_kind(self):
        bad = ("givebehind", BAD, BOTH)
        self.assert_refused(InvalidKind, BAD, term_of, bad, ["x"])
        self.assert_refused(InvalidKind, BAD, term_of, reading=("behind", ODD, bad), names=["1", "1"])
        self.assert_refused(InvalidKind, BAD, term_of, ("behind", ("givebehind", WITH, WORD), bad), [])

    def test_not_single(self):
        self.assert_refused(NotSingle, WITH, term_of, ("givebehind", WITH, BOTH), ["x"])
        self.assert_refused(NotSingle, behind(A, WITH), term_of, ("behind", ODD, ("giveahead", behind(A, WITH), WORD)),
                            ["1"])

    def test_invalid_name(self):
        for name in WRONG_NAMES:
            self.assert_refused(InvalidName, name, term_of, WORD, [name])
            self.assert_refused(InvalidName, name, term_of, BOTH, ["x", name])
            self.assert_refused(InvalidName, name, term_of, reading=ODD, names=["x", "y", name, "x", "1"])
        self.assert_refused(InvalidName, "x", term_of, BOTH, ["x", "x"])
        self.assert_refused(InvalidName, "y", term_of, ("givebehind", A, WORD), ["x", "y", "z", "y", "x", "1"])

    def test_invalid_reading(self):
        narrow = ("givebehind", A, WORD)
        self.assert_refused(InvalidReading, ODD, term_of, ODD, [])
        self.assert_refused(InvalidReading, narrow, term_of, ("behind", narrow, ODD), ["x"])
        self.assert_refused(InvalidReading, X, term_of, X, ["x"])
        for names in ([], ["x"], ["x", "y", "z"]):
            self.assert_refused(InvalidReading, BOTH, term_of, BOTH, names)
        self.assert_refused(InvalidReading, LIFT, term_of, reading=LIFT, names=["x", "y"])
        self.assertEqual(term_of(("behind", LIFT, LIFT), ["x", "y"])[1][1], "a")


class BehindARefusedCall(Checks, unittest.TestCase):

    def test_all_is_as_ahead(self):
        back = ("behind", LIFTED, Y)
        calls = [
            (term_of, (LIFT, ["x"]), (LIFT, ["x", "x"])), (reading_of, (back,), (TAKEN,)), (names_of, (back,), (ODD,)),
            (same_terms, (back, back), (back, ODD)), (renamed, (back, "y", "z"), (back, "y", "x")),
            (put_for, (back, "y", Z), (back, "z", Z)), (term_step, (back,), (TAKEN,)), (short_term, (back,), (TAKEN,)),
        ]
        self.assert_as_ahead(calls)


if __name__ == "__main__":
    unittest.main()
