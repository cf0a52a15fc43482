"""Which tuple a paper without "cut" may be, of a row and a kind told by the numbers of a `KindNumbers`.

All that is asked here has one word for the row and the kind, and all that is told has, too.
"""

from waitwords.kindnumbers import spelled_on, turned_round


def last_tuples(numbers, row, goal):
    """Return the list of tuples (head, inner) that a paper may be made of, a first one that will do in all cases alone.

    The head is the paper without the papers within it, `inner` the list of the rows and kinds that these must show.
    """
    if row == (goal,):
        return [(("same", numbers.originals[goal]), [])]
    shape = numbers.shapes[goal]
    if shape[0] == "behind":
        return [(("givebehind",), [(row + (shape[2],), shape[1])])]
    if shape[0] == "ahead":
        return [(("giveahead",), [((shape[1],) + row, shape[2])])]
    for at, number in enumerate(row):
        inner = numbers.shapes[number]
        if inner[0] == "with":
            return [(("part", at), [(row[:at] + inner[1:] + row[at + 1:], goal)])]
    return chosen_tuples(numbers, row, goal)


def chosen_tuples(numbers, row, goal):
    """Return the list of tuples (head, inner) for a row without "with" and a kind that does not wait."""
    spelled = numbers.spellings_to(row)
    places = {}
    for place, spelling in enumerate(spelled):
        places.setdefault(spelling, []).append(place)
    found = joins(numbers, row, goal, places)
    for at, number in enumerate(row):
        end = numbers.ends[number]
        # What ends in another letter than the asked one takes something only within the row of a Q.
        if number != end and (end == goal or numbers.shapes[end][0] == "with"):
            found.extend(takings(numbers, row, goal, at, spelled, places))
    return found


def joins(numbers, row, goal, places):
    """Return the list of tuples (head, inner) of "join"."""
    text, first, second = numbers.shapes[goal]
    if text != "with":
        return []
    middles = places.get(numbers.spellings[first], [])
    return [(("join",), [(row[:middle], first), (row[middle:], second)])
            for middle in middles if 0 < middle < len(row)]


def takings(numbers, row, goal, at, spelled, places):
    """Return the list of tuples (head, inner) in which the kind at a place takes what it waits for."""
    text, first, second = numbers.shapes[row[at]]
    if text == "behind":
        ends = places.get(spelled_on(spelled[at + 1], numbers.spellings[second]), [])
        return [(("behind", at), [(row[:at] + (first,) + row[end:], goal), (row[at + 1:end], second)])
                for end in ends if end > at + 1]
    starts = places.get(spelled_on(spelled[at], turned_round(numbers.spellings[first])), [])
    return [(("ahead", start), [(row[:start] + (second,) + row[at + 1:], goal), (row[start:at], first)])
            for start in starts if start < at]
