"""Kinds by numbers, so that rows of them are short keys, however deep the kinds are.

Where a letter stands in a kind, anything may stand here that a dict takes as a key.
"""


def spelled_on(one, other):
    """Return a word and another one behind it, without what cancels where they meet."""
    many = 0
    least = min(len(one), len(other))
    while many < least and one[len(one) - 1 - many] == -other[many]:
        many += 1
    return one[:len(one) - many] + other[many:]


def turned_round(spelled):
    """Return a word turned round with other signs."""
    return tuple([-sign for sign in spelled[::-1]])


class KindNumbers:
    """A number for each kind that was asked for, and for each one within it; alike kinds have one number.

    `originals` are the kinds, `shapes` the tuples (text, first, second) of the numbers of their parts, or ("plain",
    letter, 0), `ends` the numbers of what they are when they wait no more, and `spellings` their words, with a
    number for each letter, below 0 for the other sign. `places` tell the number of each shape.
    """

    def __init__(self):
        self.originals = []
        self.shapes = []
        self.ends = []
        self.spellings = []
        self.places = {}

    def number(self, kind):
        """Return the number of a kind."""
        if kind[0] == "plain":
            shape = ("plain", kind[1], 0)
        else:
            shape = (kind[0], self.number(kind[1]), self.number(kind[2]))
        if shape not in self.places:
            self.places[shape] = len(self.originals)
            self.originals.append(kind)
            self.shapes.append(shape)
            self.ends.append(self.end_of(shape))
            self.spellings.append(self.spelling_of(shape))
        return self.places[shape]

    def end_of(self, shape):
        """Return the number of what the newest kind is when it waits no more."""
        if shape[0] == "behind":
            return self.ends[shape[1]]
        if shape[0] == "ahead":
            return self.ends[shape[2]]
        return len(self.originals) - 1

    def spelling_of(self, shape):
        """Return the word of the newest kind."""
        if shape[0] == "plain":
            return (len(self.originals),)
        first = self.spellings[shape[1]]
        second = self.spellings[shape[2]]
        if shape[0] == "behind":
            second = turned_round(second)
        elif shape[0] == "ahead":
            first = turned_round(first)
        return spelled_on(first, second)

    def row_numbers(self, row):
        """Return the tuple of the numbers of the kinds of a row."""
        return tuple([self.number(kind) for kind in row])

    def spellings_to(self, row):
        """Return the words of all beginnings of a row of numbers, the empty one, too."""
        found = [()]
        for number in row:
            found.append(spelled_on(found[-1], self.spellings[number]))
        return found

    def have_one_spelling(self, row, goal):
        """Tell whether a row of numbers and a kind by its number have one word, as they do if the row comes to it."""
        return self.spellings_to(row)[-1] == self.spellings[goal]
