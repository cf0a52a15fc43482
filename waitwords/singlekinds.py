"""All single kinds of few letters, and the check of the text of these letters."""

from waitwords.errors import InvalidLetter
from waitwords.kindparts import is_letter
from waitwords.texts import show_kind


def check_signs(signs, most):
    """Raise InvalidLetter for a text that is not one to so many unlike letters, ascending."""
    right = 1 <= len(signs) <= most and all([is_letter(sign) for sign in signs])
    if not right or list(signs) != sorted(set(signs)):
        raise InvalidLetter(signs)


def single_kinds(signs, most):
    """Return the list of all single kinds of at most so many letters out of a text.

    They ascend by how many letters stand in them, and then by their texts.
    """
    found = [[("plain", sign) for sign in signs]]
    while len(found) < most:
        many = len(found) + 1
        pairs = [(one, other) for left in range(1, many) for one in found[left - 1] for other in found[many - left - 1]]
        kinds = [(text, one, other) for text in ("behind", "ahead") for one, other in pairs]
        found.append(sorted(kinds, key=show_kind))
    return [kind for group in found for kind in group]
