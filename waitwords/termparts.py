"""The parts of terms and the names in them. Nothing is checked here."""

from waitwords.kinds import LETTERS
from waitwords.readingparts import is_give, parts_inside_first
from waitwords.walks import folded, outside_first

# The indexes of the terms within each term.
WITHIN = {"name": (), "behind": (1, 2), "ahead": (1, 2), "givebehind": (3,), "giveahead": (3,)}


def indexes_in_term(part):
    """Return the indexes of the terms within a part."""
    return WITHIN.get(part[0], ())


def is_term_part(part):
    """Tell whether the first text of a tuple is that of a term."""
    return part[0] in WITHIN


def term_parts(term):
    """Return the list of all parts, a part ahead of those within it, from the left."""
    return [entry[0] for entry in outside_first(term, indexes_in_term)]


def kinds_given(term):
    """Return the list of the kinds that are given, a give ahead of those within it, from the left."""
    return [part[2] for part in term_parts(term) if is_give(part)]


def given_names(term):
    """Return the list of the names that are given, a give's ahead of those within it, from the left."""
    return [part[1] for part in term_parts(term) if is_give(part)]


def standing_names(term):
    """Return the list of the names as they stand in a term as a "name", from the left."""
    return [part[1] for part in term_parts(term) if part[0] == "name"]


def free_names(term):
    """Return the list of the names that are not given, from the left."""
    given = {name: True for name in given_names(term)}
    return [name for name in standing_names(term) if name not in given]


def name_at(number):
    """Return the name with a number from 0 on, of a to z, aa, ab and so on."""
    text = ""
    left = number + 1
    while left > 0:
        left, at = divmod(left - 1, len(LETTERS))
        text = LETTERS[at] + text
    return text


def first_names(many, taken):
    """Return the list of the first names that are none of a dict's keys, as many as asked for."""
    found = []
    number = 0
    while len(found) < many:
        name = name_at(number)
        if name not in taken:
            found.append(name)
        number += 1
    return found


def with_names(term, table):
    """Return a term with other names, given or not, as a dict tells them; other ones stay."""

    def named(part, made):
        if part[0] == "name":
            return ("name", table.get(part[1], part[1]))
        if is_give(part):
            return (part[0], table.get(part[1], part[1]), part[2], made[0])
        return (part[0], made[0], made[1])

    return folded(term, indexes_in_term, named)


def put_for_name(term, name, other):
    """Return a term with another one for the "name" of a name."""

    def put(part, made):
        if part[0] == "name":
            return other if part[1] == name else part
        return part[:len(part) - len(made)] + tuple(made)

    return folded(term, indexes_in_term, put)


def without_names(term):
    """Return the reading of a term."""

    def bare(part, made):
        if part[0] == "name":
            return ("word",)
        if is_give(part):
            return (part[0], part[2], made[0])
        return (part[0], made[0], made[1])

    return folded(term, indexes_in_term, bare)


def numbered_term(reading):
    """Return the tuple of a term of a reading, with numbers for names, and the list of those that are not given."""
    stack = []
    many = 0
    for part in parts_inside_first(reading):
        if part[0] == "word":
            stack.append((("name", many), [many]))
            many += 1
        elif is_give(part):
            term, free = stack.pop()
            number = free.pop() if part[0] == "givebehind" else free.pop(0)
            stack.append(((part[0], number, part[1], term), free))
        else:
            second, later = stack.pop()
            first, earlier = stack.pop()
            stack.append(((part[0], first, second), earlier + later))
    return stack[0]


def term_with_names(reading, names):
    """Return the term of a reading with names for the kinds of its row, and the first other ones for those given."""
    term, free = numbered_term(reading)
    table = {number: name for number, name in zip(free, names)}
    given = given_names(term)
    taken = {name: True for name in names}
    for number, name in zip(given, first_names(len(given), taken)):
        table[number] = name
    return with_names(term, table)


def put_anew(term, name, other):
    """Return a term with another one for a name that is not given, given names that would meet others named anew."""
    inside = {one: True for one in standing_names(other)}
    free = {one: True for one in free_names(term) if one != name}
    outer = [one for one in given_names(term) if one in inside]
    inner = [one for one in given_names(other) if one in free]
    taken = {one: True for one in standing_names(term) + standing_names(other)}
    anew = first_names(len(outer) + len(inner), taken)
    changed = with_names(term, dict(zip(outer, anew)))
    return put_for_name(changed, name, with_names(other, dict(zip(inner, anew[len(outer):]))))
