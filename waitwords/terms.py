"""Terms: readings with a name at each word and each give."""

from waitwords.errors import InvalidReading
from waitwords.kindchecks import check_kinds, check_single
from waitwords.readingchecks import check_shape
from waitwords.readingparts import given_kinds
from waitwords.termchecks import check_is_free, check_once, check_terms, check_unlike_names, names_in
from waitwords.termparts import free_names, put_anew, term_with_names, without_names
from waitwords.termsteps import first_term_step, shortest_term


def term_of(reading, names):
    """Return the term of a reading with names for the kinds of its row."""
    kinds = given_kinds(reading)
    check_kinds(kinds)
    check_single(kinds)
    check_unlike_names(names)
    if check_shape(reading) != len(names):
        raise InvalidReading(reading)
    return term_with_names(reading, names)


def reading_of(term):
    """Return the reading of a term."""
    check_terms([term], names_in(term))
    return without_names(term)


def names_of(term):
    """Return the list of the names of a term that are not given, from the left."""
    check_terms([term], names_in(term))
    return free_names(term)


def same_terms(one, other):
    """Tell whether two terms differ in given names alone."""
    check_terms([one, other], names_in(one) + names_in(other))
    # A give takes the name that stands first or last, whatever it is called.
    return free_names(one) == free_names(other) and without_names(one) == without_names(other)


def renamed(term, name, other):
    """Return a term with another name for one that is not given."""
    check_terms([term], names_in(term) + [name, other])
    return _put(term, name, ("name", other))


def put_for(term, name, other):
    """Return a term with another one for a name that is not given."""
    check_terms([term, other], names_in(term) + [name] + names_in(other))
    return _put(term, name, other)


def _put(term, name, other):
    """Return a term with another one for a name, once both are checked."""
    check_is_free(term, name)
    found = put_anew(term, name, other)
    check_once(found)
    return found


def term_step(term):
    """Return the term behind the first step that can be made in a term, None if there is none."""
    check_terms([term], names_in(term))
    return first_term_step(term)


def short_term(term):
    """Return the term that so many first steps as can be made lead to."""
    check_terms([term], names_in(term))
    return shortest_term(term)
