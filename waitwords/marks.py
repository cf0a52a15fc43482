"""Marks: numbers in the place of letters, by which can be told which letters a paper or a reading links.

A wire of a proof goes from letter to letter; all marks on it are one in the end, and no others are.
"""

from waitwords.kindparts import letters_within, swap_letters
from waitwords.paperparts import indexes_in_paper, shown_by_part
from waitwords.readingparts import indexes_in_reading, is_give, parts_inside_first
from waitwords.showing import words_kinds
from waitwords.walks import folded


class Marks:
    """Marks that were given so far: the letter of each, and the mark that it was linked to, or itself."""

    def __init__(self):
        self.letters = []
        self.leaders = []

    def marked(self, kind):
        """Return a kind with a new mark in the place of each letter."""
        if kind[0] == "plain":
            mark = len(self.letters)
            self.letters.append(kind[1])
            self.leaders.append(mark)
            return ("plain", mark)
        first = self.marked(kind[1])
        return (kind[0], first, self.marked(kind[2]))

    def leader(self, mark):
        """Return the one mark that stands for all that were linked with a mark."""
        while self.leaders[mark] != mark:
            mark = self.leaders[mark]
        return mark

    def link(self, one, other):
        """Link the marks of two marked kinds that are alike but for the marks, each with the one at its place."""
        for mark, beside in zip(letters_within(one), letters_within(other)):
            self.leaders[self.leader(mark)] = self.leader(beside)

    def settled(self, kinds):
        """Return marked kinds with the leader in the place of each mark."""
        table = {mark: ("plain", self.leader(mark)) for mark in range(len(self.letters))}
        return [swap_letters(kind, table) for kind in kinds]

    def letter_kinds(self):
        """Return the dict of the plain kind of each mark."""
        return {mark: ("plain", letter) for mark, letter in enumerate(self.letters)}


def marked_by_paper(paper):
    """Return the tuple (row, kind, dict) of a paper: what it shows with marks, linked ones alike, and their letters."""
    marks = Marks()

    def shown(part, made):
        if part[0] == "same":
            return shown_by_part(("same", marks.marked(part[1])), made)
        if part[0] == "cut":
            marks.link(made[0][0][part[1]], made[1][1])
        return shown_by_part(part, made)

    row, kind = folded(paper, indexes_in_paper, shown)
    settled = marks.settled(row + [kind])
    return settled[:-1], settled[-1], marks.letter_kinds()


def marked_by_reading(row, reading):
    """Return the tuple (row, kind, dict) of a reading of a row: likewise."""
    marks = Marks()
    marked_row = [marks.marked(kind) for kind in row]

    def marked(part, made):
        given = (marks.marked(part[1]),) if is_give(part) else ()
        return part[:1] + given + tuple(made)

    marked_reading = folded(reading, indexes_in_reading, marked)
    words = words_kinds(marked_row, parts_inside_first(marked_reading))
    settled = marks.settled(marked_row + [linked_kind(marks, marked_reading, words)])
    return settled[:-1], settled[-1], marks.letter_kinds()


def linked_kind(marks, reading, words):
    """Return the kind that a reading with marks shows of its words' kinds, and link what meets in it."""
    left = words[::-1]

    def shown(part, made):
        if part[0] == "word":
            return left.pop()
        if part[0] == "givebehind":
            return ("behind", made[0], part[1])
        if part[0] == "giveahead":
            return ("ahead", part[1], made[0])
        if part[0] == "behind":
            marks.link(made[0][2], made[1])
            return made[0][1]
        marks.link(made[1][1], made[0])
        return made[1][2]

    return folded(reading, indexes_in_reading, shown)
