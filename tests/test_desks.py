"""desks.py: what a desk answers and refuses."""

import unittest

from samples import A, AB, AS, B, C, DEEP_WITH, ODD, S, WITH, Checks, ahead, behind, laid_out
from waitwords.books import Book
from waitwords.desks import Desk
from waitwords.errors import DoubleKind, DoubleName, InvalidKind, InvalidLetter, InvalidName, InvalidRow, InvalidWord
from waitwords.errors import MissingKind, NothingToUndo, NotSingle, UnknownName, UnknownWord, Unreadable
from waitwords.kinds import lifted, swapped, turned
from waitwords.texts import show_book, show_kind

BAD = ("plain", "B")
ENTRIES = [("he", [A]), ("sleeps", [AS]), ("soundly", [ahead(AS, AS)])]
WRONG_NAMES = ["", "abcdefghi", "N", "n1", "n n", " ", "n ", "to", "a-b", "{"]
WRONG_WORDS = ["", "abcdefghi", "He", "he1", " ", "he ", "{"]
WRONG_LETTERS = ["", "A", "ab", "1", " "]


def desk_with(**kinds):
    desk = Desk(Book(ENTRIES))
    for name, kind in kinds.items():
        desk.put(name, kind)
    return desk


def state(desk):
    """All that a desk tells, but for its forks that are not open."""
    names = desk.names()
    return [desk.fork, desk.forks(), len(desk), desk.book.entries, [(name, desk.kind(name)) for name in names]]


def whole_state(desk):
    """The same of each fork; the desk is as it was behind it."""
    found = [state(desk)]
    for fork in desk.forks():
        desk.switch(fork)
        found.append([desk.book.entries, [(name, desk.kind(name)) for name in desk.names()]])
        desk.undo()
    return found


class DeskChecks(Checks):

    def assert_done(self, desk, method, **named):
        """A call that changes the desk returns None, counts as one, and is taken back by undo; it is then done."""
        before = whole_state(desk)
        many = len(desk)
        function = getattr(desk, method)
        told = laid_out(named)
        self.assertIsNone(function(**named))
        self.assertEqual(laid_out(named), told)
        self.assertEqual(len(desk), many + 1)
        behind_it = whole_state(desk)
        self.assertIsNone(desk.undo())
        self.assertEqual(whole_state(desk), before)
        self.assertIsNone(function(*named.values()))
        self.assertEqual(whole_state(desk), behind_it)

    def assert_desk_refuses(self, error, value, desk, method, *told):
        """A call raises this error and leaves the desk as it was."""
        before = whole_state(desk)
        self.assert_refused(error, value, getattr(desk, method), *told)
        self.assertEqual(whole_state(desk), before)


class Changes(DeskChecks, unittest.TestCase):

    def test_a_new_desk(self):
        for desk in (Desk(Book(ENTRIES)), Desk(book=Book(ENTRIES))):
            self.assertEqual(desk.book, Book(ENTRIES))
            self.assertEqual(desk.book.entries, ENTRIES)
            self.assertEqual([desk.fork, desk.forks(), desk.names(), len(desk)], ["main", ["main"], [], 0])
            self.assertIs(type(desk.book), Book)

    def test_desks_share_nothing(self):
        book = Book(ENTRIES)
        one, other = Desk(book), Desk(book)
        one.put("n", A)
        one.teach("it", "n")
        one.branch("far")
        self.assertEqual([other.names(), other.forks(), len(other)], [[], ["main"], 0])
        self.assertEqual([book.entries, other.book.entries], [ENTRIES, ENTRIES])

    def test_put(self):
        desk = Desk(Book([]))
        self.assert_done(desk, "put", name="n", kind=A)
        self.assertEqual([desk.kind("n"), desk.names()], [A, ["n"]])
        self.assert_done(desk, "put", name="b", kind=DEEP_WITH)
        self.assertEqual([desk.kind("b"), desk.names()], [DEEP_WITH, ["b", "n"]])
        # A name put twice, in the place of the elder one, and just the same.
        self.assert_done(desk, "put", name="n", kind=WITH)
        self.assert_done(desk, "put", name="n", kind=WITH)
        self.assertEqual([desk.kind("n"), desk.names(), len(desk)], [WITH, ["b", "n"], 4])
        for name in ("z", "abcdefgh", "main", "none", "tot", "t", "o"):
            self.assert_done(desk, "put", name=name, kind=B)
            self.assertEqual(desk.kind(name), B)

    def test_make(self):
        desk = desk_with(n=A, m=AB, w=WITH)
        for deed, kind in ((("behind", "n", "m"), behind(A, AB)), (("ahead", "n", "m"), ahead(A, AB)),
                           (("with", "n", "m"), ("with", A, AB)), (("lifted", "n", "m"), lifted(A, AB, True)),
                           (("turned", "m"), turned(AB)), (("turned", "w"), ("with", B, A)),
                           (("swapped", "m", "a", "w"), swapped(AB, "a", WITH)), (("swapped", "m", "z", "w"), AB),
                           (("behind", "n", "n"), behind(A, A)), (("swapped", "m", "b", "m"), behind(A, AB))):
            self.assert_done(desk, "make", name="x", deed=deed)
            self.assertEqual(desk.kind("x"), kind)
        self.assertEqual(lifted(A, AB, True), behind(AB, ahead(A, AB)))

    def test_a_deed_of_a_name_upon_itself(self):
        desk = desk_with(n=A)
        self.assert_done(desk, "make", name="n", deed=("behind", "n", "n"))
        self.assertEqual(desk.kind("n"), behind(A, A))
        self.assert_done(desk, "make", name="n", deed=("turned", "n"))
        self.assertEqual(desk.kind("n"), ahead(A, A))
        desk.undo()
        desk.undo()
        self.assertEqual(desk.kind("n"), A)

    def test_names_stand_for_their_kinds_at_the_time(self):
        desk = desk_with(n=A, m=B)
        desk.make("x", ("behind", "n", "m"))
        desk.teach("it", "n")
        desk.put("n", S)
        desk.drop("m")
        self.assertEqual([desk.kind("x"), desk.book.kinds("it")], [AB, [A]])

    def test_teach(self):
        desk = desk_with(n=A, m=AB)
        self.assert_done(desk, "teach", word="she", name="n")
        self.assertEqual(desk.book.entries, ENTRIES + [("she", [A])])
        self.assert_done(desk, "teach", word="he", name="m")
        self.assertEqual(desk.book.entries, [("he", [A, AB])] + ENTRIES[1:] + [("she", [A])])
        self.assert_done(desk, "teach", word="to", name="n")
        self.assertEqual(desk.book.words(), ["he", "she", "sleeps", "soundly", "to"])
        self.assert_done(desk, "teach", word="abcdefgh", name="m")
        self.assertEqual(desk.book.entries[-2:], [("to", [A]), ("abcdefgh", [AB])])

    def test_forget(self):
        desk = desk_with(n=A, m=AB, v=AS)
        desk.teach("he", "m")
        desk.teach("he", "v")
        self.assert_done(desk, "forget", word="he", name="m")
        self.assertEqual(desk.book.entries, [("he", [A, AS])] + ENTRIES[1:])
        # A word goes with its last kind.
        self.assert_done(desk, "forget", word="sleeps", name="v")
        self.assertEqual(desk.book.entries, [("he", [A, AS]), ENTRIES[2]])
        self.assert_done(desk, "forget", word="he", name="n")
        self.assert_done(desk, "forget", word="he", name="v")
        self.assertEqual(desk.book.entries, ENTRIES[2:])
        desk.put("s", ENTRIES[2][1][0])
        self.assert_done(desk, "forget", word="soundly", name="s")
        self.assertEqual([desk.book.entries, len(desk.book)], [[], 0])
        self.assert_done(desk, "teach", word="he", name="v")
        self.assertEqual(desk.book.entries, [("he", [AS])])

    def test_a_desks_book_that_was_told_never_changes(self):
        desk = desk_with(n=S)
        book = desk.book
        desk.teach("it", "n")
        self.assertEqual([book.entries, len(desk.book)], [ENTRIES, 4])
        desk.book.entries.append(7)
        self.assertEqual(len(desk.book.entries), 4)

    def test_drop(self):
        desk = desk_with(n=A, m=AB)
        self.assert_done(desk, "drop", name="n")
        self.assertEqual([desk.names(), desk.kind("m")], [["m"], AB])
        self.assert_done(desk, "drop", name="m")
        self.assertEqual(desk.names(), [])
        self.assert_done(desk, "put", name="n", kind=S)
        self.assertEqual(desk.names(), ["n"])

    def test_branch_and_switch(self):
        desk = desk_with(n=A)
        self.assert_done(desk, "branch", name="far")
        self.assertEqual([desk.fork, desk.forks()], ["main", ["far", "main"]])
        desk.put("n", B)
        desk.teach("it", "n")
        self.assert_done(desk, "switch", name="far")
        # What was done later in the other one does not show.
        self.assertEqual([desk.fork, desk.kind("n"), desk.book.entries], ["far", A, ENTRIES])
        desk.put("far", S)
        desk.drop("n")
        # A fork of a fork.
        self.assert_done(desk, "branch", name="n")
        self.assert_done(desk, "switch", name="n")
        self.assertEqual([desk.names(), desk.forks()], [["far"], ["far", "main", "n"]])
        desk.teach("far", "far")
        self.assert_done(desk, "switch", name="main")
        self.assertEqual([desk.names(), desk.kind("n"), desk.book.words()], [["n"], B, ["he", "it", "sleeps", "soundly"]])
        self.assert_done(desk, "switch", name="far")
        self.assertEqual([desk.names(), desk.book.entries], [["far"], ENTRIES])
        self.assert_done(desk, "switch", name="n")
        self.assertEqual(desk.book.kinds("far"), [S])

    def test_a_fork_opened_again_counts(self):
        desk = Desk(Book([]))
        self.assert_done(desk, "switch", name="main")
        self.assert_done(desk, "switch", name="main")
        self.assertEqual([desk.fork, len(desk)], ["main", 2])
        desk.undo()
        desk.undo()
        self.assertEqual([desk.fork, len(desk)], ["main", 0])

    def test_a_kind_and_a_fork_of_one_name(self):
        desk = desk_with(main=A, far=B)
        desk.branch("far")
        desk.switch("far")
        desk.drop("far")
        self.assertEqual([desk.fork, desk.names(), desk.forks()], ["far", ["main"], ["far", "main"]])

    def test_undo_down_to_the_first_and_once_more(self):
        desk = Desk(Book(ENTRIES))
        calls = [("put", ("n", A)), ("make", ("m", ("behind", "n", "n"))), ("teach", ("it", "m")), ("branch", ("far",)),
                 ("put", ("n", A)), ("switch", ("far",)), ("forget", ("he", "n")), ("drop", ("n",)), ("switch", ("far",)),
                 ("put", ("q", WITH)), ("branch", ("deep",)), ("switch", ("deep",)), ("teach", ("he", "q")),
                 ("switch", ("main",)), ("put", ("q", S))]
        states = [whole_state(desk)]
        for number, (method, told) in enumerate(calls):
            self.assertEqual(len(desk), number)
            getattr(desk, method)(*told)
            states.append(whole_state(desk))
        for before in states[-2::-1]:
            self.assertIsNone(desk.undo())
            self.assertEqual(whole_state(desk), before)
        for _ in range(2):
            self.assert_desk_refuses(NothingToUndo, 0, desk, "undo")
        desk.put("n", A)
        self.assertEqual(len(desk), 1)
        desk.undo()
        self.assert_desk_refuses(NothingToUndo, 0, desk, "undo")

    def test_refused_calls_are_not_taken_back(self):
        desk = desk_with(n=A)
        self.assertRaises(InvalidName, desk.put, "to", A)
        self.assertRaises(UnknownName, desk.drop, "m")
        self.assertRaises(Unreadable, desk.order, "put")
        self.assertEqual(len(desk), 1)
        desk.undo()
        self.assertEqual([desk.names(), len(desk)], [[], 0])


class Questions(DeskChecks, unittest.TestCase):

    def setUp(self):
        self.desk = desk_with(n=A, t=S, v=AS, b=B, ab=AB, w=WITH, a=A, z=A)
        self.before = whole_state(self.desk)

    def tearDown(self):
        self.assertEqual(whole_state(self.desk), self.before)

    def test_kind(self):
        self.assert_answer(AS, self.desk.kind, name="v")
        self.assert_answer(WITH, self.desk.kind, name="w")

    def test_names_and_forks_are_new_and_ascend(self):
        self.assertEqual(self.desk.names(), ["a", "ab", "b", "n", "t", "v", "w", "z"])
        for told in (self.desk.names, self.desk.forks):
            told().append("odd")
            self.assertNotIn("odd", told())
        self.desk.book.entries.append(8)

    def test_comes(self):
        self.assert_answer(True, self.desk.comes, names=["n", "v"], name="t")
        self.assert_answer(False, self.desk.comes, names=["v", "n"], name="t")
        self.assert_answer(True, self.desk.comes, names=["n", "b"], name="w")
        self.assert_answer(True, self.desk.comes, names=["n"], name="z")
        self.assert_answer(True, self.desk.comes, names=["ab", "b", "v"], name="t")

    def test_count(self):
        desk = self.desk
        self.assertEqual([desk.count(["n", "v"], "t"), desk.count(["v", "n"], "t"), desk.count(["n"], "n")], [1, 0, 1])
        more = desk_with(x=behind(A, A), n=A, y=ahead(A, A))
        self.assertEqual([more.count(["x", "n", "y"], "n"), more.count(["x", "x", "n", "y", "y"], "n")], [2, 6])
        names = ["n", "v"]
        desk.count(names, "t")
        self.assertEqual(names, ["n", "v"])

    def test_lets(self):
        self.assert_answer(True, self.desk.lets, words=["he", "sleeps"], name="t")
        self.assert_answer(False, self.desk.lets, words=["sleeps", "he"], name="t")
        self.assert_answer(True, self.desk.lets, words=["he", "sleeps", "soundly"], name="t")
        self.assert_answer(True, self.desk.lets, words=["he"], name="n")

    def test_lets_asks_the_open_forks_book(self):
        desk = desk_with(n=A)
        desk.branch("far")
        desk.teach("it", "n")
        self.assertTrue(desk.lets(["it"], "n"))
        desk.switch("far")
        self.assertRaises(UnknownWord, desk.lets, ["it"], "n")

    def test_same_as(self):
        self.assert_answer(["a", "z"], self.desk.same_as, name="n")
        self.assert_answer(["n", "z"], self.desk.same_as, name="a")
        self.assert_answer([], self.desk.same_as, name="w")
        # Alike tuples, not kinds that lead to each other.
        desk = desk_with(one=behind(behind(A, C), B), two=behind(A, ("with", B, C)))
        self.assert_answer([], desk.same_as, name="one")


class Refused(DeskChecks, unittest.TestCase):

    def test_invalid_name(self):
        desk = desk_with(n=A)
        for name in WRONG_NAMES:
            self.assert_desk_refuses(InvalidName, name, desk, "put", name, BAD)
            self.assert_desk_refuses(InvalidName, name, desk, "make", name, ("swapped", "x", "A", "y"))
            self.assert_desk_refuses(InvalidName, name, desk, "branch", name)

    def test_double_name(self):
        desk = desk_with(n=A)
        self.assert_desk_refuses(DoubleName, "main", desk, "branch", "main")
        desk.branch("far")
        self.assert_desk_refuses(DoubleName, "far", desk, "branch", "far")
        desk.undo()
        self.assert_done(desk, "branch", name="far")

    def test_invalid_word(self):
        desk = desk_with(n=A)
        for word in WRONG_WORDS:
            self.assert_desk_refuses(InvalidWord, word, desk, "teach", word, "x")
            self.assert_desk_refuses(InvalidWord, word, desk, "teach", word, "n")
            self.assert_desk_refuses(UnknownWord, word, desk, "forget", word, "n")

    def test_invalid_kind(self):
        desk = desk_with(n=A)
        self.assert_desk_refuses(InvalidKind, BAD, desk, "put", "n", behind(A, ahead(BAD, ODD)))
        self.assert_desk_refuses(InvalidKind, ODD, desk, "put", "m", ODD)

    def test_unknown_name(self):
        desk = desk_with(n=A)
        for deed, name in ((("behind", "n", "x"), "x"), (("behind", "y", "x"), "y"), (("ahead", "y", "n"), "y"),
                           (("ahead", "n", "x"), "x"), (("with", "x", "y"), "x"), (("lifted", "n", "m"), "m"),
                           (("turned", "main"), "main"), (("swapped", "x", "A", "y"), "x"), (("swapped", "n", "A", "y"), "y")):
            self.assert_desk_refuses(UnknownName, name, desk, "make", "m", deed)
        for name in ("x", "", "to", "N", "main"):
            self.assert_desk_refuses(UnknownName, name, desk, "teach", "he", name)
            self.assert_desk_refuses(UnknownName, name, desk, "forget", "she", name)
            self.assert_desk_refuses(UnknownName, name, desk, "drop", name)
            self.assert_desk_refuses(UnknownName, name, desk, "kind", name)
            self.assert_desk_refuses(UnknownName, name, desk, "same_as", name)
            self.assert_desk_refuses(UnknownName, name, desk, "comes", ["n", name, "y"], "x")
            self.assert_desk_refuses(UnknownName, name, desk, "comes", ["n"], name)
            self.assert_desk_refuses(UnknownName, name, desk, "count", ["n", name, "y"], "x")
            self.assert_desk_refuses(UnknownName, name, desk, "count", ["n"], name)
            self.assert_desk_refuses(UnknownName, name, desk, "lets", ["she"], name)
        for name in ("n", "x", "", "to"):
            self.assert_desk_refuses(UnknownName, name, desk, "switch", name)

    def test_names_of_another_fork_are_not_there(self):
        desk = desk_with(n=A)
        desk.branch("far")
        desk.put("m", B)
        desk.switch("far")
        for method, told in (("kind", ("m",)), ("drop", ("m",)), ("comes", (["m"], "n"))):
            self.assert_desk_refuses(UnknownName, "m", desk, method, *told)

    def test_invalid_letter(self):
        desk = desk_with(n=A, m=B)
        for text in WRONG_LETTERS:
            self.assert_desk_refuses(InvalidLetter, text, desk, "make", "x", ("swapped", "n", text, "m"))

    def test_double_kind(self):
        desk = desk_with(n=A, m=A, v=AS)
        self.assert_desk_refuses(DoubleKind, "n", desk, "teach", "he", "n")
        self.assert_desk_refuses(DoubleKind, "m", desk, "teach", "he", "m")
        self.assert_desk_refuses(DoubleKind, "v", desk, "teach", "sleeps", "v")

    def test_missing_kind(self):
        desk = desk_with(n=A, v=AS)
        self.assert_desk_refuses(UnknownWord, "she", desk, "forget", "she", "n")
        self.assert_desk_refuses(MissingKind, "v", desk, "forget", "he", "v")
        self.assert_desk_refuses(MissingKind, "n", desk, "forget", "sleeps", "n")

    def test_questions(self):
        desk = desk_with(n=A, w=WITH, d=DEEP_WITH)
        for method in ("comes", "count", "lets"):
            self.assert_desk_refuses(InvalidRow, [], desk, method, [], "x")
            self.assert_desk_refuses(InvalidRow, [], desk, method, [], "n")
        self.assert_desk_refuses(UnknownWord, "she", desk, "lets", ["he", "she", "it"], "w")
        self.assert_desk_refuses(UnknownWord, "N", desk, "lets", ["N"], "n")
        self.assert_desk_refuses(NotSingle, WITH, desk, "count", ["n", "w"], "d")
        self.assert_desk_refuses(NotSingle, DEEP_WITH, desk, "count", ["n"], "d")
        self.assertFalse(desk.comes(["n", "w"], "d"))

    def test_behind_a_refused_call_all_is_as_ahead(self):
        desk = desk_with(n=A, v=AS, t=S)
        self.assert_as_ahead([
            (desk.kind, ("n",), ("x",)), (desk.comes, (["n", "v"], "t"), ([], "t")),
            (desk.count, (["n", "v"], "t"), (["n"], "x")), (desk.lets, (["he"], "n"), (["she"], "n")),
            (desk.same_as, ("n",), ("x",)), (desk.order, ("book",), ("books",)), (desk.order, ("show n",), ("show x",)),
        ])


class Orders(DeskChecks, unittest.TestCase):

    def assert_order(self, answer, desk, text):
        found = desk.order(text)
        self.assertEqual(found, answer)
        self.assertIs(type(found), str)

    def assert_orders(self, desk, text, method, *told):
        """An order does what a method does, is taken back likewise, and may be passed by name."""
        other = Desk(desk.book)
        for name in desk.names():
            other.put(name, desk.kind(name))
        getattr(other, method)(*told)
        before, many = whole_state(desk), len(desk)
        self.assert_order("done", desk, text)
        self.assertEqual(len(desk), many + 1)
        self.assertEqual(state(desk)[3:], state(other)[3:])
        self.assertEqual([desk.fork, desk.forks()], [other.fork, other.forks()])
        desk.undo()
        self.assertEqual(whole_state(desk), before)
        self.assertEqual(desk.order(text=text), "done")

    def test_what_changes_the_desk(self):
        desk = Desk(Book(ENTRIES))
        self.assert_orders(desk, "put n a", "put", "n", A)
        self.assert_orders(desk, "put m (a/(b.(c\\s)))", "put", "m", behind(A, ("with", B, ahead(C, S))))
        self.assert_orders(desk, "put m b", "put", "m", B)
        self.assert_orders(desk, "behind x n m", "make", "x", ("behind", "n", "m"))
        self.assertEqual(desk.kind("x"), AB)
        self.assert_orders(desk, "ahead x n m", "make", "x", ("ahead", "n", "m"))
        self.assertEqual(desk.kind("x"), ahead(A, B))
        self.assert_orders(desk, "with x n m", "make", "x", ("with", "n", "m"))
        self.assert_orders(desk, "lifted x n m", "make", "x", ("lifted", "n", "m"))
        self.assertEqual(desk.kind("x"), lifted(A, B, True))
        self.assert_orders(desk, "turned x x", "make", "x", ("turned", "x"))
        self.assert_orders(desk, "swapped y x b n", "make", "y", ("swapped", "x", "b", "n"))
        self.assertEqual(desk.kind("y"), swapped(turned(lifted(A, B, True)), "b", A))
        self.assert_orders(desk, "teach he m", "teach", "he", "m")
        self.assert_orders(desk, "teach abcdefgh m", "teach", "abcdefgh", "m")
        self.assert_orders(desk, "forget he n", "forget", "he", "n")
        self.assert_orders(desk, "forget he m", "forget", "he", "m")
        self.assert_orders(desk, "drop m", "drop", "m")
        self.assert_orders(desk, "branch far", "branch", "far")
        self.assert_order("done", desk, "switch far")
        self.assertEqual([desk.fork, len(desk)], ["far", 16])
        self.assert_order("done", desk, "undo")
        self.assertEqual([desk.fork, len(desk)], ["main", 15])
        self.assert_order("done", desk, "switch main")
        self.assertEqual([desk.fork, len(desk)], ["main", 16])

    def test_questions(self):
        desk = desk_with(n=A, t=S, v=AS, a=A, z=A, w=WITH)
        before = whole_state(desk)
        for text, answer in (("show n", "a"), ("show v", "(a\\s)"), ("show w", "(a.b)"),
                             ("book", "he: a ; sleeps: (a\\s) ; soundly: ((a\\s)\\(a\\s))"), ("comes n v to t", "yes"),
                             ("comes v n to t", "no"), ("comes n to n", "yes"), ("lets he sleeps to t", "yes"),
                             ("lets he to t", "no"), ("lets he sleeps soundly to t", "yes"), ("count n v to t", "1"),
                             ("count v to n", "0"), ("forks", "main"), ("names", "a n t v w z"), ("same n", "a z"),
                             ("same w", "none")):
            self.assert_order(answer, desk, text)
        self.assertEqual(whole_state(desk), before)
        desk.branch("far")
        self.assert_order("far main", desk, "forks")
        empty = Desk(Book([]))
        self.assert_order("none", empty, "names")
        self.assert_order("none", empty, "book")
        self.assert_order("main", empty, "forks")
        more = desk_with(x=behind(A, A), n=A, y=ahead(A, A))
        self.assert_order("6", more, "count x x n y y to n")

    def test_what_it_shows(self):
        desk = desk_with(d=DEEP_WITH)
        self.assert_order(show_kind(DEEP_WITH), desk, "show d")
        desk.teach("he", "d")
        self.assert_order(show_book(desk.book), desk, "book")

    def test_a_word_that_is_to(self):
        desk = desk_with(n=A)
        desk.teach("to", "n")
        self.assert_order("he: a ; sleeps: (a\\s) ; soundly: ((a\\s)\\(a\\s)) ; to: a", desk, "book")
        for text in ("teach to n", "forget to n", "lets to to n", "lets he to to n", "lets to he to n"):
            self.assert_desk_refuses(Unreadable, text, desk, "order", text)
        self.assertTrue(desk.lets(["to"], "n"))
        self.assertIsNone(desk.forget("to", "n"))

    def test_unreadable(self):
        desk = desk_with(n=A, m=B)
        before = whole_state(desk)
        texts = ["", " ", "to", "odd", "odd n", "Put n a", "put", "put n", "put n a a", "put  n a", "put n  a", " put n a",
                 "put n a ", "put N a", "put to a", "put abcdefghi a", "put n1 a", "put n A", "put n ab", "put n (a/b",
                 "put n (a / b)", "put  a", "put n ", "behind x n", "behind x n m n", "behind to n m", "behind x to m",
                 "behind x n M", "ahead x n", "ahead x n m m", "with x", "with x n m m", "lifted x n", "lifted x n to",
                 "turned x", "turned x n m", "turned  n", "swapped x n a", "swapped x n A m", "swapped x n ab m",
                 "swapped x n  m", "swapped x n a m m", "swapped x n 1 m", "teach he", "teach he n n", "teach He n",
                 "teach to n", "teach abcdefghi n", "teach he to", "forget he", "forget he n m", "forget to n", "drop",
                 "drop n m", "drop to", "drop N", "branch", "branch a b", "branch to", "branch A", "branch abcdefghi",
                 "switch", "switch to", "switch main n", "switch Main", "undo n", "undo ", " undo", "undoes", "show",
                 "show to", "show n m", "book n", "book ", "comes", "comes to n", "comes n", "comes n m", "comes n to",
                 "comes n to to", "comes to to n", "comes n  to n", "comes n to n ", "comes N to n", "comes n to n m",
                 "comes n to n to n", "lets", "lets to n", "lets he", "lets he to", "lets He to n", "lets he to N",
                 "lets abcdefghi to n", "lets he sleeps n", "count", "count to n", "count n", "count n to",
                 "count n to n to n", "forks n", "forks ", "names n", "same", "same to", "same n m", "same N", "put\tn a",
                 "put n a\n", "comes n TO n", "make x n", "to n", "n", "main"]
        for text in texts:
            self.assert_refused(Unreadable, text, desk.order, text)
            self.assert_refused(Unreadable, text, desk.order, text=text)
        self.assertEqual(whole_state(desk), before)

    def test_then_the_errors_of_the_methods(self):
        desk = desk_with(n=A, m=A, v=AS, w=WITH)
        for text, error, value in (
                ("branch main", DoubleName, "main"), ("behind x y z", UnknownName, "y"), ("ahead x n z", UnknownName, "z"),
                ("turned x main", UnknownName, "main"), ("swapped x y a z", UnknownName, "y"), ("teach he x", UnknownName, "x"),
                ("teach he m", DoubleKind, "m"), ("forget she x", UnknownName, "x"), ("forget she n", UnknownWord, "she"),
                ("forget he v", MissingKind, "v"), ("drop x", UnknownName, "x"), ("switch n", UnknownName, "n"),
                ("show x", UnknownName, "x"), ("comes n x to y", UnknownName, "x"), ("comes n to y", UnknownName, "y"),
                ("count w to n", NotSingle, WITH), ("count n to x", UnknownName, "x"), ("lets she to x", UnknownName, "x"),
                ("lets he she to n", UnknownWord, "she"), ("same x", UnknownName, "x")):
            self.assert_desk_refuses(error, value, desk, "order", text)
        empty = Desk(Book([]))
        self.assert_desk_refuses(NothingToUndo, 0, empty, "order", "undo")


if __name__ == "__main__":
    unittest.main()
