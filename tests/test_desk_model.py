"""A desk against a plain list of all calls that stand, done anew after each one."""

import random
import unittest

from samples import A, AB, AS, B, WITH, ahead, behind
from slowways import slow_comes, slow_readings
from waitwords.books import Book
from waitwords.desks import Desk
from waitwords.errors import DoubleKind, DoubleName, MissingKind, NothingToUndo, UnknownName, UnknownWord, WaitError
from waitwords.kinds import lifted, size, swapped, turned
from waitwords.texts import show_book, show_kind

ENTRIES = [("he", [A]), ("sleeps", [AS]), ("she", [A, AB])]
KINDS = [A, B, AB, AS, WITH, ahead(AS, AS), behind(A, A)]
NAMES = ["n", "m", "x", "main"]
FORKS = ["main", "far", "n"]
WORDS = ["he", "she", "it", "to"]


def start():
    """Of each fork its kinds and its entries, the open fork first told."""
    return {"open": "main", "forks": {"main": ({}, [(word, list(kinds)) for word, kinds in ENTRIES])}}


def made(kinds, deed):
    for name in [deed[1]] + list(deed[2:] if deed[0] != "swapped" else deed[3:]):
        if name not in kinds:
            raise UnknownName(name)
    if deed[0] == "swapped":
        return swapped(kinds[deed[1]], deed[2], kinds[deed[3]])
    if deed[0] == "turned":
        return turned(kinds[deed[1]])
    if deed[0] == "lifted":
        return lifted(kinds[deed[1]], kinds[deed[2]], True)
    return (deed[0], kinds[deed[1]], kinds[deed[2]])


def do(state, method, told):
    """One call upon a plain state, which changes; the errors as the document has them."""
    kinds, entries = state["forks"][state["open"]]
    words = [word for word, _ in entries]
    if method == "put":
        kinds[told[0]] = told[1]
    elif method == "make":
        kinds[told[0]] = made(kinds, told[1])
    elif method in ("teach", "forget"):
        word, name = told
        if name not in kinds:
            raise UnknownName(name)
        at = words.index(word) if word in words else None
        if method == "teach":
            if at is None:
                entries.append((word, [kinds[name]]))
            elif kinds[name] in entries[at][1]:
                raise DoubleKind(name)
            else:
                entries[at][1].append(kinds[name])
        elif at is None:
            raise UnknownWord(word)
        elif kinds[name] not in entries[at][1]:
            raise MissingKind(name)
        else:
            entries[at][1].remove(kinds[name])
            if not entries[at][1]:
                del entries[at]
    elif method == "drop":
        if told[0] not in kinds:
            raise UnknownName(told[0])
        del kinds[told[0]]
    elif method == "branch":
        if told[0] in state["forks"]:
            raise DoubleName(told[0])
        state["forks"][told[0]] = (dict(kinds), [(word, list(own)) for word, own in entries])
    else:
        if told[0] not in state["forks"]:
            raise UnknownName(told[0])
        state["open"] = told[0]


def done_anew(calls):
    state = start()
    for method, told in calls:
        do(state, method, told)
    return state


def any_call(chance):
    method = chance.choice(["put", "put", "make", "make", "teach", "teach", "forget", "drop", "branch", "switch", "switch",
                            "undo", "undo", "undo"])
    names = [chance.choice(NAMES) for _ in range(3)]
    if method == "put":
        return method, (names[0], chance.choice(KINDS))
    if method == "make":
        text = chance.choice(["behind", "ahead", "with", "lifted", "turned", "swapped"])
        if text == "swapped":
            return method, (names[0], (text, names[1], chance.choice("abz"), names[2]))
        return method, (names[0], (text, names[1]) + ((names[2],) if text != "turned" else ()))
    if method in ("teach", "forget"):
        return method, (chance.choice(WORDS), names[0])
    if method == "drop":
        return method, (names[0],)
    return method, (chance.choice(FORKS),) if method != "undo" else ()


def order_text(method, told):
    """The order that does what a call does, None if there is none."""
    if method == "make":
        return " ".join([told[1][0], told[0]] + list(told[1][1:]))
    if method == "put":
        return f"put {told[0]} {show_kind(told[1])}"
    return None if "to" in told else " ".join([method, *told])


class Model(unittest.TestCase):

    def test_against_calls_that_are_done_anew(self):
        counts = {}
        for seed in range(60):
            chance = random.Random(seed)
            desk, calls = Desk(Book(ENTRIES)), []
            for _ in range(70):
                method, told = any_call(chance)
                if method == "make" and not self.is_small(calls, told[1]):
                    continue
                answer = self.wanted(calls, method, told)
                self.check_call(desk, method, told, answer, chance.random() < 0.5)
                key = (method, answer and type(answer).__name__)
                counts[key] = counts.get(key, 0) + 1
                self.check_state(desk, calls, chance)
        self.assertGreater(min(counts.values()), 2)
        self.assertGreater(len(counts), 15)

    def is_small(self, calls, deed):
        """Whether a deed makes a small kind, or none."""
        state = done_anew(calls)
        try:
            return size(made(state["forks"][state["open"]][0], deed)) <= 3
        except WaitError:
            return True

    def wanted(self, calls, method, told):
        """The error of a call, None for none; the list of the calls that stand then holds those that do."""
        if method == "undo":
            if not calls:
                return NothingToUndo(0)
            calls.pop()
            return None
        state = done_anew(calls)
        try:
            do(state, method, told)
        except WaitError as error:
            return error
        calls.append((method, told))
        return None

    def check_call(self, desk, method, told, answer, by_order):
        text = order_text(method, told) if by_order else None
        try:
            found = desk.order(text) if text else getattr(desk, method)(*told)
            self.assertIsNone(answer)
            self.assertEqual(found, "done" if text else None)
        except WaitError as error:
            self.assertIsNotNone(answer, (method, told, error))
            self.assertEqual([type(error), error.value], [type(answer), answer.value])

    def check_state(self, desk, calls, chance):
        state = done_anew(calls)
        kinds, entries = state["forks"][state["open"]]
        self.assertEqual(len(desk), len(calls))
        self.assertEqual([desk.fork, desk.forks()], [state["open"], sorted(state["forks"])])
        self.assertEqual(desk.names(), sorted(kinds))
        self.assertEqual({name: desk.kind(name) for name in kinds}, kinds)
        self.assertEqual(desk.book.entries, entries)
        self.assertEqual([desk.order("book"), desk.order("names"), desk.order("forks")],
                         [show_book(Book(entries)), " ".join(sorted(kinds)) or "none", " ".join(sorted(state["forks"]))])
        if kinds:
            name, other = chance.choice(sorted(kinds)), chance.choice(sorted(kinds))
            alike = [one for one in sorted(kinds) if one != name and kinds[one] == kinds[name]]
            self.assertEqual(desk.same_as(name), alike)
            comes = slow_comes((kinds[other], kinds[name]), kinds[name])
            self.assertIs(desk.comes([other, name], name), comes)
            self.assertEqual(desk.order(f"comes {other} {name} to {name}"), "yes" if comes else "no")
            if "with" not in str([kinds[name], kinds[other]]):
                many = len(slow_readings((kinds[other],), kinds[name]))
                self.assertEqual(desk.count([other], name), many)
                self.assertEqual(desk.order(f"count {other} to {name}"), str(many))
            words = [chance.choice(entries)[0] for _ in range(2)] if entries else []
            if words:
                table = dict(entries)
                lets = any(slow_comes((one, two), kinds[name]) for one in table[words[0]] for two in table[words[1]])
                self.assertIs(desk.lets(words, name), lets)


if __name__ == "__main__":
    unittest.main()
