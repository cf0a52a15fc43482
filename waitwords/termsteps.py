"""Steps of terms, as those of readings. The terms are right here."""

from waitwords.shortening import made_short, places_of_steps
from waitwords.termparts import indexes_in_term, put_for_name
from waitwords.walks import part_at, put_at


def term_stepped(part):
    """Return what the step makes of a part in which it can be made."""
    give, other = (part[1], part[2]) if part[0] == "behind" else (part[2], part[1])
    return put_for_name(give[3], give[1], other)


def first_term_step(term):
    """Return the term behind the first step that can be made in a term, None if there is none."""
    places = places_of_steps(term, indexes_in_term)
    return put_at(term, places[0], term_stepped(part_at(term, places[0]))) if places else None


def shortest_term(term):
    """Return the term in which no step can be made, to which steps lead."""
    return made_short(term, indexes_in_term, term_stepped)
