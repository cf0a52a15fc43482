"""Kinds, readings and slow, plain second ways to the same answers, for the tests."""

import random
from copy import deepcopy

from waitwords.books import Book
from waitwords.errors import WaitError
from waitwords.spans import Span

A, B, C, S = [("plain", letter) for letter in "abcs"]
AB = ("behind", A, B)
BC = ("behind", B, C)
AS = ("ahead", A, S)
WITH = ("with", A, B)
WORD = ("word",)
BOTH = ("behind", WORD, WORD)
LIFT = ("givebehind", ("ahead", A, B), ("ahead", WORD, WORD))
ODD = ("odd", [1, [2]], ([3],))
# Five deep, with a "with" at the bottom and without.
DEEP = ("behind", ("ahead", ("behind", A, ("ahead", B, C)), S), A)
DEEP_WITH = ("ahead", A, ("behind", ("ahead", ("behind", ("with", A, B), C), S), A))


def behind(one, other):
    return ("behind", one, other)


def ahead(other, one):
    return ("ahead", other, one)


class Checks:
    """What the test cases share."""

    def assert_refused(self, error, value, function, *told, **named):
        """A call raises just this error with just this value, and changes nothing."""
        before = laid_out(deepcopy((told, named)))
        with self.assertRaises(error) as caught:
            function(*told, **named)
        self.assertIs(type(caught.exception), error)
        self.assertEqual(caught.exception.value, value)
        self.assertIs(type(caught.exception.value), type(value))
        self.assertEqual(laid_out((told, named)), before)
        self.assert_unshared(caught.exception.value, (told, named))

    def assert_answer(self, answer, function, **named):
        """A call is answered alike by name, by position, and again; nothing passed changes or is shared."""
        before = laid_out(deepcopy(named))
        found = function(**named)
        self.assertEqual(laid_out(found), laid_out(answer))
        self.assertIs(type(found), type(answer))
        self.assertEqual(laid_out(function(*named.values())), laid_out(answer))
        self.assertEqual(laid_out(named), before)
        self.assert_unshared(found, named)
        self.assert_unshared(found, function(**named))

    def assert_as_ahead(self, calls):
        """Behind a refused call the same right one is answered as ahead; calls are tuples (function, right, wrong)."""
        for function, right, wrong in calls:
            ahead_of_it = function(*right)
            with self.assertRaises(WaitError):
                function(*wrong)
            self.assertEqual(laid_out(function(*right)), laid_out(ahead_of_it))

    def assert_unshared(self, found, told):
        """No list of what was found is one of what was told, or stands in it twice."""
        mine = [id(part) for part in lists_in(found)]
        self.assertEqual(len(mine), len(set(mine)))
        self.assertFalse(set(mine) & {id(part) for part in lists_in(told)})


def laid_out(value):
    """A value with plain lists, in their order, in the place of books and spans, and dicts."""
    if isinstance(value, Book):
        return ["a book", value.entries]
    if isinstance(value, Span):
        return ["a span", value.products]
    if isinstance(value, dict):
        return ["a dict", laid_out(list(value.items()))]
    if isinstance(value, (list, tuple)):
        return type(value)(laid_out(part) for part in value)
    return value


def lists_in(value):
    if isinstance(value, dict):
        value = tuple(value.values())
    if not isinstance(value, (list, tuple)):
        return []
    mine = [value] if isinstance(value, list) else []
    return mine + [inner for part in value for inner in lists_in(part)]


def all_kinds(letters, deepest, texts=("behind", "ahead", "with")):
    """All kinds of these letters, as deep as told."""
    plain = [("plain", letter) for letter in letters]
    kinds = plain
    for _ in range(deepest - 1):
        kinds = plain + [(text, one, other) for text in texts for one in kinds for other in kinds]
    return kinds


def all_readings(most, given=(A,)):
    """All readings of at most so many tuples, with widths from 1 on."""
    found = {1: [WORD]}
    for many in range(2, most + 1):
        found[many] = [
            (text, kind, part) for text in ("givebehind", "giveahead") for kind in given
            for part in found[many - 1] if row_width(part) > 1
        ]
        for left in range(1, many - 1):
            found[many] += [
                (text, one, other) for text in ("behind", "ahead")
                for one in found[left] for other in found[many - 1 - left]
            ]
    return [reading for many in found for reading in found[many]]


def row_width(reading):
    if reading[0] == "word":
        return 1
    if reading[0] in ("behind", "ahead"):
        return row_width(reading[1]) + row_width(reading[2])
    return row_width(reading[2]) - 1


def shown(row, reading):
    """What a reading shows of a row as long as its width, as a list, or the first part that shows nothing."""
    if reading[0] == "word":
        return [row[0]]
    if reading[0] == "givebehind":
        found = shown(row + [reading[1]], reading[2])
        return [("behind", found[0], reading[1])] if isinstance(found, list) else found
    if reading[0] == "giveahead":
        found = shown([reading[1]] + row, reading[2])
        return [("ahead", reading[1], found[0])] if isinstance(found, list) else found
    middle = row_width(reading[1])
    left = shown(row[:middle], reading[1])
    if not isinstance(left, list):
        return left
    right = shown(row[middle:], reading[2])
    if not isinstance(right, list):
        return right
    if reading[0] == "behind":
        fits = left[0][0] == "behind" and left[0][2] == right[0]
        return [left[0][1]] if fits else reading
    fits = right[0][0] == "ahead" and right[0][1] == left[0]
    return [right[0][2]] if fits else reading


def named(reading, names):
    """The reading with a name at each word and each give, and the list of the names that are not given."""
    if reading[0] == "word":
        name = len(names)
        names.append(name)
        return ("name", name), [name]
    if reading[0] in ("behind", "ahead"):
        one, left = named(reading[1], names)
        other, right = named(reading[2], names)
        return (reading[0], one, other), left + right
    part, free = named(reading[2], names)
    if reading[0] == "givebehind":
        return (reading[0], free[-1], reading[1], part), free[:-1]
    return (reading[0], free[0], reading[1], part), free[1:]


def with_names(reading):
    return named(reading, [])


def put_for_name(term, name, other):
    if term[0] == "name":
        return other if term[1] == name else term
    if term[0] in ("behind", "ahead"):
        return (term[0], put_for_name(term[1], name, other), put_for_name(term[2], name, other))
    return term[:3] + (put_for_name(term[3], name, other),)


def bare(term):
    """The reading of a term."""
    if term[0] == "name":
        return WORD
    if term[0] in ("behind", "ahead"):
        return (term[0], bare(term[1]), bare(term[2]))
    return (term[0], term[2], bare(term[3]))


def next_readings(reading):
    """The tuples (place, reading behind the step) of all steps, worked out by names."""
    term, _ = with_names(reading)
    return [(place, bare(whole)) for place, whole in next_terms(term)]


def next_terms(term):
    found = []
    if term[0] == "behind" and term[1][0] == "givebehind":
        found.append(([], put_for_name(term[1][3], term[1][1], term[2])))
    if term[0] == "ahead" and term[2][0] == "giveahead":
        found.append(([], put_for_name(term[2][3], term[2][1], term[1])))
    if term[0] in ("behind", "ahead"):
        found += [([1] + place, (term[0], part, term[2])) for place, part in next_terms(term[1])]
        found += [([2] + place, (term[0], term[1], part)) for place, part in next_terms(term[2])]
    if term[0] in ("givebehind", "giveahead"):
        found += [([2] + place, term[:3] + (part,)) for place, part in next_terms(term[3])]
    return found


def long_by_words(row, reading, waits_for=False):
    """Whether a short reading is long, as the document words it."""
    kind = shown(row, reading)[0]
    gives = reading[0] in ("givebehind", "giveahead")
    if kind[0] in ("behind", "ahead") and not gives and not waits_for:
        return False
    if reading[0] == "word":
        return True
    if reading[0] == "givebehind":
        return long_by_words(row + [reading[1]], reading[2])
    if reading[0] == "giveahead":
        return long_by_words([reading[1]] + row, reading[2])
    middle = row_width(reading[1])
    return (long_by_words(row[:middle], reading[1], reading[0] == "behind")
            and long_by_words(row[middle:], reading[2], reading[0] == "ahead"))


def any_kind(chance, deepest):
    if deepest == 1 or chance.random() < 0.5:
        return ("plain", chance.choice("ab"))
    return (chance.choice(["behind", "ahead"]), any_kind(chance, deepest - 1), any_kind(chance, deepest - 1))


def any_reading(chance, kind, deepest):
    """A row and a reading by which it shows a kind, often with detours."""
    ways = ["word"]
    if deepest > 0:
        ways += ["behind", "ahead", "detour", "turn"]
        if kind[0] in ("behind", "ahead"):
            ways += ["give", "give", "give"]
    way = chance.choice(ways)
    if way == "word":
        return [kind], WORD
    if way == "give":
        row, part = any_reading(chance, kind, deepest - 1)
        if kind[0] == "behind":
            return row, ("givebehind", kind[2], ("behind", part, WORD))
        return row, ("giveahead", kind[1], ("ahead", WORD, part))
    if way in ("detour", "turn"):
        row, part = any_reading(chance, kind, deepest - 1)
        if len(row) == 1:
            return row, part
        if way == "detour":
            return row, ("behind", ("givebehind", row[-1], part), WORD)
        return row, ("ahead", WORD, ("giveahead", row[0], part))
    other = any_kind(chance, 2)
    right, wanted = any_reading(chance, other, deepest - 1)
    if way == "behind":
        left, part = any_reading(chance, ("behind", kind, other), deepest - 1)
        return left + right, ("behind", part, wanted)
    left, part = any_reading(chance, ("ahead", other, kind), deepest - 1)
    return right + left, ("ahead", wanted, part)


def some_readings(many):
    """A list of tuples (row, reading), always the same ones."""
    chance = random.Random(7)
    return [any_reading(chance, any_kind(chance, 3), 6) for _ in range(many)]
