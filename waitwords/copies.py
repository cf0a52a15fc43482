"""New copies of what a caller handed in."""


def fresh(value):
    """Return a value with new lists, one for each place, in lists and tuples at any depth.

    A tuple that is no kind may hold lists, and an error must not share them.
    """
    found = [value]
    starts = []
    while len(starts) < len(found):
        thing = found[len(starts)]
        starts.append(len(found))
        if isinstance(thing, (list, tuple)):
            found.extend(thing)
    many = len(found)
    for at in reversed(range(many)):
        thing = found[at]
        if isinstance(thing, (list, tuple)):
            parts = found[starts[at]:starts[at] + len(thing)]
            found[at] = tuple(parts) if isinstance(thing, tuple) else parts
    return found[0]
