"""Walks through trees of tuples: readings, terms and papers. Nothing is checked here.

A walk is passed a function that returns the indexes of a tuple at which the parts within it stand. A place is the
list of the indexes that lead from a tree to one of its parts.
"""


def outside_first(whole, indexes):
    """Return the tuples (part, around, at) of all parts, a part ahead of those within it, from the left.

    The part stands at the index `at` of the part whose place in this list is `around`.
    """
    found = []
    left = [(whole, -1, 0)]
    while left:
        part, around, at = left.pop()
        number = len(found)
        found.append((part, around, at))
        for index in reversed(indexes(part)):
            left.append((part[index], number, index))
    return found


def inside_first(whole, indexes):
    """Return the list of all parts, those within a part ahead of it, from the left."""
    found = []
    left = [whole]
    while left:
        part = left.pop()
        found.append(part)
        for index in indexes(part):
            left.append(part[index])
    return found[::-1]


def folded(whole, indexes, make):
    """Return what is made of a tree; `make` is passed each part and the list of what was made of those within it."""
    stack = []
    for part in inside_first(whole, indexes):
        first = len(stack) - len(indexes(part))
        made = stack[first:]
        del stack[first:]
        stack.append(make(part, made))
    return stack[0]


def place_of_part(parts, number):
    """Return the place of one of the outside first parts."""
    place = []
    _, around, at = parts[number]
    while around >= 0:
        place.append(at)
        _, around, at = parts[around]
    return place[::-1]


def part_at(whole, place):
    """Return the part at a place."""
    for at in place:
        whole = whole[at]
    return whole


def put_at(whole, place, other):
    """Return a tree with another one in the place of the part at a place."""
    around = []
    for at in place:
        around.append((whole, at))
        whole = whole[at]
    for part, at in reversed(around):
        other = part[:at] + (other,) + part[at + 1:]
    return other
