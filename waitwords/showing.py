"""The kinds that the parts of a reading show of a row. The shape of the reading is right here."""

from waitwords.errors import InvalidReading
from waitwords.readingparts import sort_words


def put_together(text, first, second):
    """Return what two kinds side by side are, one of which waits for the other one, None if it does not."""
    if text == "behind" and first[0] == "behind" and first[2] == second:
        return first[1]
    if text == "ahead" and second[0] == "ahead" and second[1] == first:
        return second[2]
    return None


def words_kinds(row, parts):
    """Return the list of the kinds of all words, from the left, those of the row and the given ones."""
    free, kinds = sort_words(parts)
    for number, kind in zip(free, row):
        kinds[number] = kind
    return [kinds[number] for number in range(len(kinds))]


def shown_kinds(row, parts):
    """Return the kinds that the inside first parts of a reading show of a row as long as its width.

    InvalidReading is raised for the first part that shows nothing.
    """
    words = words_kinds(row, parts)
    found = []
    stack = []
    many = 0
    for part in parts:
        if part[0] == "word":
            kind = words[many]
            many += 1
        elif part[0] == "givebehind":
            kind = ("behind", stack.pop(), part[1])
        elif part[0] == "giveahead":
            kind = ("ahead", part[1], stack.pop())
        else:
            second = stack.pop()
            kind = put_together(part[0], stack.pop(), second)
            if kind is None:
                raise InvalidReading(part)
        stack.append(kind)
        found.append(kind)
    return found
