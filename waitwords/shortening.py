"""Steps, by which readings become short. The shape of the readings is right here."""

from waitwords.readingparts import part_at, parts_outside_first, place_of_part, put_at, put_for_kind


def can_step(part):
    """Tell whether a step can be made in a part, in the part itself."""
    if part[0] == "behind":
        return part[1][0] == "givebehind"
    return part[0] == "ahead" and part[2][0] == "giveahead"


def step_places(reading):
    """Return the places at which a step can be made, a part ahead of those within it, from the left."""
    parts = parts_outside_first(reading)
    return [place_of_part(parts, number) for number, entry in enumerate(parts) if can_step(entry[0])]


def stepped(part):
    """Return what the step makes of a part in which it can be made."""
    if part[0] == "behind":
        return put_for_kind(part[1][2], -1, part[2])
    return put_for_kind(part[2][2], 0, part[1])


def stepped_at(reading, place):
    """Return the whole reading that the step at a place makes."""
    return put_at(reading, place, stepped(part_at(reading, place)))


def short_form(reading):
    """Return the short reading that a reading comes to."""
    places = step_places(reading)
    while places:
        # From the last place on, so that no step moves a place that is still to come.
        for place in reversed(places):
            reading = stepped_at(reading, place)
        places = step_places(reading)
    return reading
