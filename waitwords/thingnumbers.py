"""Things by numbers: the number of a thing is its place among all things of its kind. Nothing is checked here.

A sized kind is a tuple: ("one", count) of a letter; ("list", count, one, other), the lists with a thing of the one
for each thing of the other; ("pair", count, one, other). The count tells how many things there are.
"""


def power(number, many):
    """Return a number multiplied with itself so many times."""
    found = 1
    for _ in range(many):
        found = found * number
    return found


def list_of(one, other):
    """Return the sized kind of the lists with a thing of one sized kind for each thing of another one."""
    return ("list", power(one[1], other[1]), one, other)


def sized_kind(kind, counts):
    """Return the sized kind of a kind; a dict tells how many things each letter has."""
    if kind[0] == "plain":
        return ("one", counts[kind[1]])
    first = sized_kind(kind[1], counts)
    second = sized_kind(kind[2], counts)
    if kind[0] == "behind":
        return list_of(first, second)
    if kind[0] == "ahead":
        return list_of(second, first)
    return ("pair", first[1] * second[1], first, second)


def number_of_digits(digits, base):
    """Return the number of which these are the digits, the greatest first."""
    found = 0
    for digit in digits:
        found = found * base + digit
    return found


def digits_of_number(number, base, many):
    """Return the list of so many digits of a number, the greatest first."""
    found = []
    for _ in range(many):
        number, digit = divmod(number, base)
        found.append(digit)
    return found[::-1]


def thing_at(sized, number):
    """Return the thing with a number."""
    if sized[0] == "one":
        return number
    if sized[0] == "pair":
        first, second = divmod(number, sized[3][1])
        return (thing_at(sized[2], first), thing_at(sized[3], second))
    return [thing_at(sized[2], digit) for digit in digits_of_number(number, sized[2][1], sized[3][1])]


def number_of_thing(sized, thing):
    """Return the number of a thing, None if it is none of the kind."""
    if sized[0] == "one":
        return thing if isinstance(thing, int) and 0 <= thing < sized[1] else None
    if sized[0] == "pair":
        return number_of_pair(sized, thing) if isinstance(thing, tuple) and len(thing) == 2 else None
    if not isinstance(thing, list) or len(thing) != sized[3][1]:
        return None
    digits = [number_of_thing(sized[2], part) for part in thing]
    return None if None in digits else number_of_digits(digits, sized[2][1])


def number_of_pair(sized, thing):
    """Return the number of a tuple of two things, None if one is none of its kind."""
    first = number_of_thing(sized[2], thing[0])
    second = number_of_thing(sized[3], thing[1])
    return None if first is None or second is None else first * sized[3][1] + second
