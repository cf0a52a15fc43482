"""The worths of readings, for all lists of things that are asked for, at once.

A table is a tuple of a sized kind and a list of numbers of its things: of a word those that it may have, of a
reading its worth for each choice of those of its words that are not given within it, the last one going quickest.
"""

from waitwords.readingparts import indexes_in_reading, parts_inside_first, sort_words
from waitwords.shortening import short_form
from waitwords.thingnumbers import list_of, number_of_digits, sized_kind
from waitwords.walks import folded


def full_table(sized):
    """Return the table of a word that may have all things of its kind."""
    return sized, list(range(sized[1]))


def word_tables(parts, tables, counts):
    """Return the list of the tables of all words of the inside first parts of a reading; those of the row are told."""
    free, given = sort_words(parts)
    found = {number: full_table(sized_kind(given[number], counts)) for number in given}
    for number, table in zip(free, tables):
        found[number] = table
    return [found[number] for number in range(len(found))]


def taken_table(text, first, second):
    """Return the table of a "behind" or "ahead" of those of the two readings in it."""
    if text == "behind":
        sized, pairs = first[0], [(number, place) for number in first[1] for place in second[1]]
    else:
        sized, pairs = second[0], [(number, place) for place in first[1] for number in second[1]]
    base = sized[2][1]
    units = [1]
    while len(units) < sized[3][1]:
        units.insert(0, units[0] * base)
    return sized[2], [number // units[place] % base for number, place in pairs]


def given_table(text, other, table):
    """Return the table of a give of a sized kind, of that of the reading in it."""
    sized, numbers = table
    many = other[1]
    # The given word goes quickest if it is the last one, slowest if it is the first one.
    rest = len(numbers) // many
    if text == "givebehind":
        groups = [numbers[many * at:many * at + many] for at in range(rest)]
    else:
        groups = [numbers[at::rest] for at in range(rest)]
    return list_of(sized, other), [number_of_digits(group, sized[1]) for group in groups]


def worth_table(reading, tables, counts):
    """Return the table of a reading, whose row's words have told tables."""
    # Steps leave the worth as it is, and spare the lists of which one thing alone is taken.
    short = short_form(reading)
    left = word_tables(parts_inside_first(short), tables, counts)[::-1]

    def table_of(part, made):
        if part[0] == "word":
            return left.pop()
        if part[0] in ("behind", "ahead"):
            return taken_table(part[0], made[0], made[1])
        return given_table(part[0], sized_kind(part[1], counts), made[0])

    return folded(short, indexes_in_reading, table_of)
