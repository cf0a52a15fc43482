"""The kind in the middle of a paper without "cut", between a stretch of its row and the rest.

All functions here return a tuple (M, paper, paper): a paper of the stretch and M, and one of the row with M in the
place of the stretch. Each tuple of a paper puts them together of those of the papers within it; so each letter that
stands in M stands there for one of the stretch, and for one of the rest.
"""

from waitwords.kindparts import turn_kind
from waitwords.paperparts import paper_width, turn_paper


def middle_of_paper(paper, start, end):
    """Return the kind in the middle, and its papers, for the stretch from a place on up to another one."""
    text = paper[0]
    if text == "same":
        return paper[1], paper, paper
    if text == "givebehind":
        kind, inner, outer = middle_of_paper(paper[1], start, end)
        return kind, inner, (text, outer)
    if text == "giveahead":
        kind, inner, outer = middle_of_paper(paper[1], start + 1, end + 1)
        return kind, inner, (text, outer)
    if text == "join":
        return middle_of_join(paper[1], paper[2], start, end)
    if text == "part":
        return middle_of_part(paper[1], paper[2], start, end)
    if text == "ahead":
        return middle_of_ahead(paper, start, end)
    return middle_of_behind(paper, start, end)


def middle_of_join(first, second, start, end):
    """Return the same for a "join" of two papers."""
    wide = paper_width(first)
    if end <= wide:
        kind, inner, outer = middle_of_paper(first, start, end)
        return kind, inner, ("join", outer, second)
    if start >= wide:
        kind, inner, outer = middle_of_paper(second, start - wide, end - wide)
        return kind, inner, ("join", first, outer)
    kind, inner, outer = middle_of_paper(first, start, wide)
    other, inner_other, outer_other = middle_of_paper(second, 0, end - wide)
    return ("with", kind, other), ("join", inner, inner_other), ("part", start, ("join", outer, outer_other))


def middle_of_part(at, paper, start, end):
    """Return the same for a "part"; within it the row has one kind more at the place."""
    inner_start = start if start <= at else start + 1
    inner_end = end if end <= at else end + 1
    kind, inner, outer = middle_of_paper(paper, inner_start, inner_end)
    if start <= at < end:
        return kind, ("part", at - start, inner), outer
    if at < start:
        return kind, inner, ("part", at, outer)
    return kind, inner, ("part", at - (end - start) + 1, outer)


def middle_of_ahead(paper, start, end):
    """Return the same for an "ahead", by way of the turned paper, which is a "behind"."""
    wide = paper_width(paper)
    kind, inner, outer = middle_of_behind(turn_paper(paper), wide - end, wide - start)
    return turn_kind(kind), turn_paper(inner), turn_paper(outer)


def middle_of_behind(paper, start, end):
    """Return the same for a "behind"."""
    _, at, first, second = paper
    wide = paper_width(second)
    stop = at + 1 + wide
    if start <= at < end < stop or at < start < stop < end:
        return middle_within_behind(paper, start, end, wide)
    if at < start and end <= stop:
        kind, inner, outer = middle_of_paper(second, start - at - 1, end - at - 1)
        return kind, inner, ("behind", at, first, outer)
    if end <= at:
        kind, inner, outer = middle_of_paper(first, start, end)
        return kind, inner, ("behind", at - (end - start) + 1, outer, second)
    if start >= stop:
        kind, inner, outer = middle_of_paper(first, start - wide, end - wide)
        return kind, inner, ("behind", at, outer, second)
    kind, inner, outer = middle_of_paper(first, start, end - wide)
    return kind, ("behind", at - start, inner, second), outer


def middle_within_behind(paper, start, end, wide):
    """Return the same for a "behind", if the stretch begins or ends, not both, within what is waited for.

    What is waited for is what the Q of the "behind" shows; it has a kind in the middle then, too.
    """
    _, at, first, second = paper
    if start <= at:
        kind, inner, outer = middle_of_paper(first, start, at + 1)
        other, inner_other, outer_other = middle_of_paper(second, end - at - 1, wide)
        whole = ("givebehind", ("behind", at - start, inner, outer_other))
        return ("behind", kind, other), whole, ("behind", start, outer, inner_other)
    kind, inner, outer = middle_of_paper(first, at + 1, end - wide)
    other, inner_other, outer_other = middle_of_paper(second, start - at - 1, wide)
    rest = ("part", start, ("behind", at, outer, outer_other))
    return ("with", other, kind), ("join", inner_other, inner), rest
