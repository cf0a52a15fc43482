"""The search for all long readings of a row of single kinds."""

from waitwords.kindnumbers import KindNumbers

WORD = ("word",)


class ReadingSearch:
    """What was found out of rows and kinds, told by the numbers of one `KindNumbers`.

    A long reading of a letter has one word down through the P of its "behind" and "ahead" whose kind ends in this
    letter; it takes all other kinds of the row, in the order in which its kind waits for them.
    """

    def __init__(self):
        self.numbers = KindNumbers()
        self.found = {}

    def readings_for_kinds(self, row, kind):
        """Return the list of all long readings of a row that show a kind."""
        numbered = self.numbers.row_numbers(row)
        goal = self.numbers.number(kind)
        if not self.numbers.have_one_spelling(numbered, goal):
            return []
        return list(self.readings(numbered, goal))

    def readings(self, row, goal):
        """Return the list of all long readings of a row and a kind that have one word."""
        key = (row, goal)
        if key not in self.found:
            self.found[key] = self.new_readings(row, goal)
        return self.found[key]

    def new_readings(self, row, goal):
        """Return what `readings` tells."""
        text, first, second = self.numbers.shapes[goal]
        if text == "behind":
            given = self.numbers.originals[second]
            return [("givebehind", given, inner) for inner in self.readings(row + (second,), first)]
        if text == "ahead":
            given = self.numbers.originals[first]
            return [("giveahead", given, inner) for inner in self.readings((first,) + row, second)]
        found = []
        for at, number in enumerate(row):
            if self.numbers.ends[number] == goal:
                found.extend(self.takings(WORD, number, row[:at], row[at + 1:]))
        return found

    def takings(self, reading, number, left, right):
        """Return the list of the readings in which one that shows a kind takes all that stands on both sides of it."""
        text, first, second = self.numbers.shapes[number]
        if text == "plain":
            return [] if left or right else [reading]
        found = []
        if text == "behind":
            for end in self.ends_of_kind(right, second):
                for other in self.readings(right[:end], second):
                    found.extend(self.takings(("behind", reading, other), first, left, right[end:]))
        else:
            for start in self.starts_of_kind(left, first):
                for other in self.readings(left[start:], first):
                    found.extend(self.takings(("ahead", other, reading), second, left[:start], right))
        return found

    def ends_of_kind(self, row, number):
        """Return the list of the places up to which the beginning of a row has the word of a kind."""
        spelled = self.numbers.spellings_to(row)
        return [end for end in range(1, len(row) + 1) if spelled[end] == self.numbers.spellings[number]]

    def starts_of_kind(self, row, number):
        """Return the list of the places from which on the end of a row has the word of a kind."""
        return [start for start in range(len(row)) if self.numbers.have_one_spelling(row[start:], number)]


def found_readings(row, kind):
    """Return the list of all long readings of a row that show a kind."""
    return ReadingSearch().readings_for_kinds(row, kind)
