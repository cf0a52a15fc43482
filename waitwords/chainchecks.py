"""The checks of chains that the functions of the program share."""

from waitwords.errors import InvalidChain
from waitwords.kindchecks import check_kinds
from waitwords.paperchecks import shown_parts
from waitwords.paperparts import kinds_in


def check_chain(kinds, steps):
    """Check the steps of a chain; return the list of the kinds told, and of those to which the steps lead.

    The kinds told are the one at which the chain begins, or none, if any will do.
    """
    check_kinds(kinds + [kind for _, paper in steps for kind in kinds_in(paper)])
    found = list(kinds)
    for step in steps:
        pair = step_kinds(step)
        if pair is None or found and found[-1] != pair[0]:
            raise InvalidChain(step)
        found.append(pair[1])
    return found


def step_kinds(step):
    """Return the list of the kind from which a step leads and the one to which it does, None if there is none.

    InvalidPaper is raised for a part of its paper that shows nothing.
    """
    sign, paper = step
    row, kind = shown_parts(paper)[-1]
    if sign not in (1, -1) or len(row) != 1:
        return None
    return [row[0], kind] if sign == 1 else [kind, row[0]]
