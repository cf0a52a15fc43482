"""Steps, by which readings become short, and terms likewise. Their shape is right here."""

from waitwords.readingparts import indexes_in_reading, put_for_kind
from waitwords.walks import outside_first, part_at, place_of_part, put_at


def can_step(part):
    """Tell whether a step can be made in a part, in the part itself."""
    if part[0] == "behind":
        return part[1][0] == "givebehind"
    return part[0] == "ahead" and part[2][0] == "giveahead"


def places_of_steps(whole, indexes):
    """Return the places in a reading or a term at which a step can be made, a part ahead of those within it.

    It is passed a function that tells the indexes of the parts within a part.
    """
    parts = outside_first(whole, indexes)
    return [place_of_part(parts, number) for number, entry in enumerate(parts) if can_step(entry[0])]


def made_short(whole, indexes, step):
    """Return the short reading or term that steps lead to; `step` makes that of a part."""
    places = places_of_steps(whole, indexes)
    while places:
        # From the last place on, so that no step moves a place that is still to come.
        for place in reversed(places):
            whole = put_at(whole, place, step(part_at(whole, place)))
        places = places_of_steps(whole, indexes)
    return whole


def step_places(reading):
    """Return the places at which a step can be made, a part ahead of those within it, from the left."""
    return places_of_steps(reading, indexes_in_reading)


def stepped(part):
    """Return what the step makes of a part in which it can be made."""
    if part[0] == "behind":
        return put_for_kind(part[1][2], -1, part[2])
    return put_for_kind(part[2][2], 0, part[1])


def stepped_at(reading, place):
    """Return the whole reading that the step at a place makes."""
    return put_at(reading, place, stepped(part_at(reading, place)))


def short_form(reading):
    """Return the short reading that a reading comes to."""
    return made_short(reading, indexes_in_reading, stepped)
