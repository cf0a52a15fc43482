"""The line of a row and an asked kind, and its links. Nothing is checked here."""

from waitwords.kindparts import letters_within, signed_letters
from waitwords.marks import Marks, marked_by_reading


def letters_in_line(row, kind):
    """Return the list of what stands in the place of letters in a row and an asked kind, as the line has it."""
    standing = [letter for part in row for letter, _ in signed_letters(part, 1)]
    return standing + [letter for letter, _ in signed_letters(kind, -1)]


def line_links(row, kind, reading):
    """Return the ascending list of the tuples of two places of the line that a reading links."""
    marked_row, marked_kind, _ = marked_by_reading(row, reading)
    first_places = {}
    found = []
    for place, mark in enumerate(letters_in_line(marked_row, marked_kind)):
        if mark in first_places:
            found.append((first_places[mark], place))
        first_places[mark] = place
    return sorted(found)


def marked_by_links(row, kind, told):
    """Return the tuple (row, kind, dict) with a mark for each link of a list, and the letter of one of its places."""
    marks = Marks()
    numbered = [marks.marked(one) for one in row + [kind]]
    order = letters_in_line(numbered[:-1], numbered[-1])
    for low, high in told:
        marks.link(("plain", order[low]), ("plain", order[high]))
    settled = marks.settled(numbered)
    return settled[:-1], settled[-1], marks.letter_kinds()


def links_like_letters(row, kind, told):
    """Tell whether links of places of the line link like letters alone."""
    letters = letters_in_line(row, kind)
    return all([letters[low] == letters[high] for low, high in told])


def line_owners(row, kind):
    """Return the list that tells for each place of the line the place of its kind in the row."""
    return [place for place, one in enumerate(row + [kind]) for _ in letters_within(one)]
