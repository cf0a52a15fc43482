"""The checks of names and terms that the functions of the program share."""

from waitwords.copies import fresh
from waitwords.errors import DoubleName, InvalidName, InvalidTerm, UnknownName
from waitwords.kindchecks import check_kinds, check_single
from waitwords.kindparts import is_letter
from waitwords.readingparts import is_give
from waitwords.termparts import free_names, given_names, indexes_in_term, is_term_part, kinds_given
from waitwords.termparts import standing_names, term_parts
from waitwords.walks import folded


def is_name(text):
    """Tell whether a text is a name: one to eight letters from a to z."""
    return 1 <= len(text) <= 8 and all([is_letter(sign) for sign in text])


def check_names(names):
    """Raise InvalidName for the first of these that is none."""
    for name in names:
        if not is_name(name):
            raise InvalidName(name)


def check_unlike_names(names):
    """Raise InvalidName for the first of these that is none or stood ahead."""
    seen = set()
    for name in names:
        if not is_name(name) or name in seen:
            raise InvalidName(name)
        seen.add(name)


def names_in(term):
    """Return the list of the names that stand in a term, given or as a "name", outside first, then from the left."""
    return [part[1] for part in term_parts(term) if part[0] == "name" or is_give(part)]


def names_by_part(part, made):
    """Return the tuple of the names of a part that are not given, and of all; it is told the same of those within.

    InvalidTerm is raised if the part is none.
    """
    if not is_term_part(part):
        raise InvalidTerm(fresh(part))
    if part[0] == "name":
        return [part[1]], [part[1]]
    free, names = made[0]
    if part[0] == "givebehind" and len(free) > 1 and free[-1] == part[1]:
        return free[:-1], names
    if part[0] == "giveahead" and len(free) > 1 and free[0] == part[1]:
        return free[1:], names
    if is_give(part) or any([name in names for name in made[1][1]]):
        raise InvalidTerm(part)
    return free + made[1][0], names + made[1][1]


def check_terms(terms, names):
    """Check terms with what stands in them, and the names that a list tells, among which are those of the terms."""
    kinds = [kind for term in terms for kind in kinds_given(term)]
    check_kinds(kinds)
    check_single(kinds)
    check_names(names)
    for term in terms:
        folded(term, indexes_in_term, names_by_part)


def check_is_free(term, name):
    """Raise UnknownName for a name that is none of those of a term that are not given."""
    if name not in free_names(term):
        raise UnknownName(name)


def check_once(term):
    """Raise DoubleName for the first name of what came of two terms that is not given and stands twice."""
    given = {name: True for name in given_names(term)}
    names = standing_names(term)
    for name in names:
        if name not in given and names.count(name) > 1:
            raise DoubleName(name)
