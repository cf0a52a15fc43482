"""Chains: steps by papers from a kind to another one of the same word, forward and back."""

from waitwords.chainchecks import check_chain
from waitwords.chainsteps import signed_kind, steps_to_plain_form
from waitwords.errors import InvalidNumber, InvalidRow
from waitwords.kindchecks import check_letter
from waitwords.kinds import word
from waitwords.paperparts import turn_paper
from waitwords.papersearch import found_paper

# The letter at the end of the plain forms over which chains go; any other one would do as well.
UNIT = ("plain", "a")


def are_joined(one, other):
    """Tell whether two kinds have the same word."""
    return word([one]) == word([other])


def chain(one, other):
    """Return a chain from a kind to another one, whose papers have no "cut", None if there is none."""
    if not are_joined(one, other):
        return None
    if one == other:
        return []
    for sign, low, high in ((1, one, other), (-1, other, one)):
        paper = found_paper([low], high)
        if paper is not None:
            return [(sign, paper)]
    return steps_to_plain_form(one, UNIT) + _turned_back(steps_to_plain_form(other, UNIT))


def chain_kinds(one, steps):
    """Return the list of the kinds of a chain, from the one on at which it begins."""
    return check_chain([one], steps)


def back_chain(steps):
    """Return the steps of a chain from the last one on, with other signs."""
    check_chain([], steps)
    return _turned_back(steps)


def turned_chain(steps):
    """Return a chain from the turned first kind of a chain to its turned last one."""
    check_chain([], steps)
    return [(sign, turn_paper(paper)) for sign, paper in steps]


def plain_form(told, letter):
    """Return the kind of a word that is made of plain kinds alone, but for the last one."""
    for other, _ in told:
        check_letter(other)
    check_letter(letter)
    for _, sign in told:
        if sign not in (1, -1):
            raise InvalidNumber(sign)
    if any([told[at] == (told[at + 1][0], -told[at + 1][1]) for at in range(len(told) - 1)]):
        raise InvalidRow(list(told))
    unit = ("plain", letter)
    found = ("behind", unit, unit)
    for other, sign in told[::-1]:
        found = signed_kind(("plain", other), sign, found)
    return found


def _turned_back(steps):
    """Return steps from the last one on, with other signs."""
    return [(-sign, paper) for sign, paper in steps[::-1]]
