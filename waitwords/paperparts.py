"""The parts of papers, what they show, and their readings. Nothing is checked here but what a part shows."""

from waitwords.kindparts import turn_kind
from waitwords.readingparts import put_for_kind
from waitwords.walks import folded, inside_first

# The indexes of the papers within each paper.
INSIDE = {"same": (), "givebehind": (1,), "giveahead": (1,), "join": (1, 2), "behind": (2, 3), "ahead": (2, 3),
          "part": (2,), "cut": (2, 3)}

TURNED_PAPERS = {"givebehind": "giveahead", "giveahead": "givebehind", "behind": "ahead", "ahead": "behind",
                 "cut": "cut"}


def indexes_in_paper(part):
    """Return the indexes of the papers within a part."""
    return INSIDE.get(part[0], ())


def is_paper_part(part):
    """Tell whether the first text of a tuple is that of a paper."""
    return part[0] in INSIDE


def paper_parts(paper):
    """Return the list of all parts, those within a part ahead of it, from the left."""
    return inside_first(paper, indexes_in_paper)


def kinds_in(paper):
    """Return the list of the kinds that stand in a paper, from the left."""
    return [part[1] for part in paper_parts(paper) if part[0] == "same"]


def is_cut_free(paper):
    """Tell whether no "cut" stands in a paper."""
    return all([part[0] != "cut" for part in paper_parts(paper)])


def shown_by_part(part, made):
    """Return the tuple (row, kind) that a part shows, None if it shows nothing.

    It is told what the papers within the part show. The kinds that meet in a "cut" are not compared.
    """
    text = part[0]
    if text == "same":
        return [part[1]], part[1]
    row, kind = made[0]
    if text == "join":
        return row + made[1][0], ("with", kind, made[1][1])
    if text == "givebehind":
        return (row[:-1], ("behind", kind, row[-1])) if len(row) > 1 else None
    if text == "giveahead":
        return (row[1:], ("ahead", row[0], kind)) if len(row) > 1 else None
    at = part[1]
    last = len(row) - 2 if text == "part" else len(row) - 1
    if not 0 <= at <= last:
        return None
    if text == "part":
        return row[:at] + [("with", row[at], row[at + 1])] + row[at + 2:], kind
    return row[:at] + put_for_place(text, row[at], made[1]) + row[at + 1:], kind


def put_for_place(text, kind, shown):
    """Return the kinds that a "behind", "ahead" or "cut" puts for a kind; `shown` is what its Q shows."""
    row, other = shown
    if text == "behind":
        return [("behind", kind, other)] + row
    if text == "ahead":
        return row + [("ahead", other, kind)]
    return row


def meets(part, made):
    """Tell whether the kinds that meet in a "cut" are alike; the place is there."""
    return made[0][0][part[1]] == made[1][1]


def reading_by_part(part, kind, made):
    """Return the reading of a part that shows a kind; it is told those of the papers within."""
    text = part[0]
    if text == "same":
        return ("word",)
    if text == "givebehind":
        return (text, kind[2], made[0])
    if text == "giveahead":
        return (text, kind[1], made[0])
    if text == "behind":
        return put_for_kind(made[0], part[1], ("behind", ("word",), made[1]))
    if text == "ahead":
        return put_for_kind(made[0], part[1], ("ahead", made[1], ("word",)))
    return put_for_kind(made[0], part[1], made[1])


def shown_and_reading(part, made):
    """Return the tuple of what a part shows and its reading; it is told the same of the papers within."""
    shown = shown_by_part(part, [one for one, _ in made])
    return shown, reading_by_part(part, shown[1], [reading for _, reading in made])


def reading_by_paper(paper):
    """Return the reading of a paper in which no "with" stands."""
    return folded(paper, indexes_in_paper, shown_and_reading)[1]


def width_by_part(part, widths):
    """Return how many kinds the row of a part has; it is told how many those of the papers within have."""
    if part[0] == "same":
        return 1
    if part[0] in ("givebehind", "giveahead", "part"):
        return widths[0] - 1
    # The kind that a "cut" takes away is the only one of both rows that is missing.
    return widths[0] + widths[1] - (1 if part[0] == "cut" else 0)


def paper_width(paper):
    """Return how many kinds the row of a paper has."""
    return folded(paper, indexes_in_paper, width_by_part)


def width_and_turned(part, made):
    """Return the tuple of the width of a part and the turned part; it is told the same of the papers within."""
    widths = [one for one, _ in made]
    papers = [paper for _, paper in made]
    width = width_by_part(part, widths)
    text = part[0]
    if text == "same":
        return width, (text, turn_kind(part[1]))
    if text == "join":
        return width, (text, papers[1], papers[0])
    if text == "part":
        return width, (text, widths[0] - 2 - part[1], papers[0])
    if text in ("givebehind", "giveahead"):
        return width, (TURNED_PAPERS[text], papers[0])
    return width, (TURNED_PAPERS[text], widths[0] - 1 - part[1], papers[0], papers[1])


def turn_paper(paper):
    """Return a paper for the turned row and kind."""
    return folded(paper, indexes_in_paper, width_and_turned)[1]
