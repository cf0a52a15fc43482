"""The steps of a chain from a kind to the plain form of its word [chains.py].

On the way stands a kind made of signed kinds, from the left, and a last one behind them: ("with", X, K) for X with
the sign 1, ("ahead", X, K) for X with -1, K being what is so made of those behind X. The signed kinds are taken apart
from the last one on, until plain ones alone are left; all papers are without "cut".
"""


def same(kind):
    """Return the paper of a kind and itself."""
    return ("same", kind)


def signed_kind(kind, sign, rest):
    """Return the kind of a signed kind and what stands behind it."""
    return ("with", kind, rest) if sign == 1 else ("ahead", kind, rest)


def joined(first, second):
    """Return the paper for the kinds of two rows, put together."""
    return ("join", first, second)


def taking(first, second):
    """Return the paper that shows the second one's row, then what waits ahead for its kind, and the first one's kind.

    The first one shows a row of one kind.
    """
    return ("ahead", 0, first, second)


def around(paper, signed):
    """Return the paper of whole kinds, for that of what stands behind some signed kinds, from the left."""
    for kind, sign in signed[::-1]:
        if sign == 1:
            paper = ("part", 0, joined(same(kind), paper))
        else:
            paper = ("giveahead", taking(paper, same(kind)))
    return paper


def unit_steps(kind, unit):
    """Return the steps from a kind to it with ("behind", unit, unit) behind it."""
    taken = ("behind", 0, same(unit), same(unit))
    return [(1, ("givebehind", joined(same(kind), same(unit)))),
            (-1, ("givebehind", ("part", 0, joined(same(kind), taken))))]


def opened_with(kind, sign, rest):
    """Return the signed parts of a signed "with", and the steps to them."""
    _, one, other = kind
    if sign == 1:
        whole = joined(same(one), joined(same(other), same(rest)))
        return [(one, 1), (other, 1)], [(1, ("part", 0, ("part", 0, whole)))]
    whole = taking(same(rest), joined(same(one), same(other)))
    return [(other, -1), (one, -1)], [(1, ("giveahead", ("giveahead", whole)))]


def opened_behind(kind, sign, rest):
    """Return the signed parts of a signed "behind", and the steps to them."""
    _, one, other = kind
    if sign == -1:
        whole = ("behind", 0, taking(same(rest), same(one)), same(other))
        return [(other, 1), (one, -1)], [(-1, ("giveahead", ("part", 1, whole)))]
    # Both come of the kind with all three, and neither need lead to the other one.
    back = ("part", 0, joined(same(kind), ("part", 0, taking(same(rest), same(other)))))
    whole = joined(("behind", 0, same(one), same(other)), same(("ahead", other, rest)))
    return [(one, 1), (other, -1)], [(-1, back), (1, ("part", 0, ("part", 1, whole)))]


def opened_ahead(kind, sign, rest):
    """Return the signed parts of a signed "ahead", and the steps to them."""
    _, other, one = kind
    if sign == 1:
        whole = joined(taking(same(one), same(other)), same(rest))
        return [(other, -1), (one, 1)], [(1, ("giveahead", ("part", 1, whole)))]
    # Both lead to a third one, and neither need lead to the other one.
    lifted = ("giveahead", joined(same(other), same(rest)))
    whole = taking(same(("with", other, rest)), taking(same(one), same(other)))
    return ([(one, -1), (other, 1)],
            [(1, ("giveahead", taking(lifted, same(kind)))), (-1, ("giveahead", ("giveahead", whole)))])


def cancelling_step(letter, sign, rest):
    """Return the step from a signed letter and the same one with the other sign behind it to what stands behind."""
    if sign == 1:
        return 1, ("part", 0, taking(same(rest), same(letter)))
    return -1, ("giveahead", joined(same(letter), same(rest)))


def opened(kind, sign, rest):
    """Return the signed parts of a signed kind that is not plain, and the steps to them."""
    if kind[0] == "with":
        return opened_with(kind, sign, rest)
    if kind[0] == "behind":
        return opened_behind(kind, sign, rest)
    return opened_ahead(kind, sign, rest)


def steps_to_plain_form(kind, unit):
    """Return the chain from a kind to the plain form of its word, with ("behind", unit, unit) at its end."""
    steps = unit_steps(kind, unit)
    left = [(kind, 1)]
    # The last of these is the kind of all plain letters that stay; each one ahead leaves out its own first letter.
    rests = [("behind", unit, unit)]
    letters = []
    while left:
        one, sign = left.pop()
        if one[0] != "plain":
            parts, inner = opened(one, sign, rests[-1])
            steps.extend([(way, around(paper, left)) for way, paper in inner])
            left.extend(parts)
        elif letters and letters[-1] == (one, -sign):
            rests.pop()
            letters.pop()
            way, paper = cancelling_step(one, sign, rests[-1])
            steps.append((way, around(paper, left)))
        else:
            rests.append(signed_kind(one, sign, rests[-1]))
            letters.append((one, sign))
    return steps
