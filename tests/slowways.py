"""Slow, plain second ways to what papers, rows and their readings tell, and papers for the tests."""

import random
from functools import lru_cache

from samples import WORD, any_kind, bare, put_for_name, row_width, with_names
from waitwords.kinds import word


@lru_cache(maxsize=None)
def slow_comes(row, kind):
    """Whether a tuple of kinds comes to a kind, by trying each form of paper at each place."""
    if row == (kind,):
        return True
    if kind[0] == "behind" and slow_comes(row + (kind[2],), kind[1]):
        return True
    if kind[0] == "ahead" and slow_comes((kind[1],) + row, kind[2]):
        return True
    if kind[0] == "with":
        for middle in range(1, len(row)):
            if slow_comes(row[:middle], kind[1]) and slow_comes(row[middle:], kind[2]):
                return True
    for at, part in enumerate(row):
        if part[0] == "with" and slow_comes(row[:at] + part[1:] + row[at + 1:], kind):
            return True
        if part[0] == "behind":
            for end in range(at + 2, len(row) + 1):
                if slow_comes(row[at + 1:end], part[2]) and slow_comes(row[:at] + (part[1],) + row[end:], kind):
                    return True
        if part[0] == "ahead":
            for start in range(at):
                if slow_comes(row[start:at], part[1]) and slow_comes(row[:start] + (part[2],) + row[at + 1:], kind):
                    return True
    return False


def slow_shown(paper):
    """What a paper shows, as the document words it, or the first part that shows nothing, in a list of one."""
    text = paper[0]
    if text == "same":
        return [paper[1]], paper[1]
    if text not in ("givebehind", "giveahead", "join", "behind", "ahead", "part", "cut"):
        return [paper]
    inner = [part for part in paper[1:] if isinstance(part, tuple)]
    told = []
    for part in inner:
        told.append(slow_shown(part))
        if isinstance(told[-1], list):
            return told[-1]
    row, kind = told[0]
    if text in ("givebehind", "giveahead"):
        if len(row) == 1:
            return [paper]
        if text == "givebehind":
            return row[:-1], ("behind", kind, row[-1])
        return row[1:], ("ahead", row[0], kind)
    if text == "join":
        return row + told[1][0], ("with", kind, told[1][1])
    at = paper[1]
    if not 0 <= at < len(row):
        return [paper]
    if text == "part":
        if at == len(row) - 1:
            return [paper]
        return row[:at] + [("with", row[at], row[at + 1])] + row[at + 2:], kind
    other_row, other = told[1]
    if text == "behind":
        return row[:at] + [("behind", row[at], other)] + other_row + row[at + 1:], kind
    if text == "ahead":
        return row[:at] + other_row + [("ahead", other, row[at])] + row[at + 1:], kind
    if row[at] != other:
        return [paper]
    return row[:at] + other_row + row[at + 1:], kind


def put_in_by_names(reading, at, other):
    term, free = with_names(reading)
    return bare(put_for_name(term, free[at], with_names(other)[0]))


def slow_reading(paper):
    """The reading of a paper, as the document words it."""
    text = paper[0]
    if text == "same":
        return WORD
    if text == "givebehind":
        return (text, slow_shown(paper[1])[0][-1], slow_reading(paper[1]))
    if text == "giveahead":
        return (text, slow_shown(paper[1])[0][0], slow_reading(paper[1]))
    inner = slow_reading(paper[3])
    if text == "behind":
        inner = ("behind", WORD, inner)
    elif text == "ahead":
        inner = ("ahead", inner, WORD)
    return put_in_by_names(slow_reading(paper[2]), paper[1], inner)


def parts_of(kind):
    return [kind] if kind[0] == "plain" else [kind] + parts_of(kind[1]) + parts_of(kind[2])


def slow_readings(row, kind, waits=False):
    """All long readings of a tuple of kinds that show a kind, as the document words it: gives where they must be.

    If it waits, the reading is the P of a "behind" or "ahead".
    """
    if not waits and kind[0] == "behind":
        return [("givebehind", kind[2], part) for part in slow_readings(row + (kind[2],), kind[1])]
    if not waits and kind[0] == "ahead":
        return [("giveahead", kind[1], part) for part in slow_readings((kind[1],) + row, kind[2])]
    found = [WORD] if row == (kind,) else []
    wanted = sorted({part for one in row for part in parts_of(one)})
    for middle in range(1, len(row)):
        left, right = row[:middle], row[middle:]
        for other in wanted:
            for part in slow_readings(left, ("behind", kind, other), True) if fits(left, ("behind", kind, other)) else []:
                found += [("behind", part, taken) for taken in slow_readings(right, other)]
            for part in slow_readings(right, ("ahead", other, kind), True) if fits(right, ("ahead", other, kind)) else []:
                found += [("ahead", taken, part) for taken in slow_readings(left, other)]
    return found


def fits(row, kind):
    """Whether a kind stands within one of a row."""
    return any(kind in parts_of(one) for one in row)


def as_it_stands(kind):
    if kind[0] == "plain":
        return [kind[1]]
    if kind[0] == "behind":
        return as_it_stands(kind[1]) + as_it_is_asked(kind[2])
    return as_it_is_asked(kind[1]) + as_it_stands(kind[2])


def as_it_is_asked(kind):
    if kind[0] == "plain":
        return [kind[1]]
    if kind[0] == "behind":
        return as_it_stands(kind[2]) + as_it_is_asked(kind[1])
    return as_it_is_asked(kind[2]) + as_it_stands(kind[1])


def slow_line(row, kind):
    return [letter for one in row for letter in as_it_stands(one)] + as_it_is_asked(kind)


def numbered(kind, numbers):
    if kind[0] == "plain":
        return ("plain", numbers.pop(0))
    one = numbered(kind[1], numbers)
    return (kind[0], one, numbered(kind[2], numbers))


def slow_links(row, kind, long):
    """The links of a long reading, as the document words them: its parts, from the asked kind on."""
    numbers = list(range(len(slow_line(row, kind))))
    kinds = [numbered(one, numbers) for one in list(row) + [kind]]
    places = {number: place for place, number in enumerate(slow_line(kinds[:-1], kinds[-1]))}
    found = []

    def ask(part, words, asked):
        if part[0] == "givebehind":
            return ask(part[2], words + [asked[2]], asked[1])
        if part[0] == "giveahead":
            return ask(part[2], [asked[1]] + words, asked[2])
        remains = answer(part, words)
        found.append(tuple(sorted([places[remains[1]], places[asked[1]]])))

    def answer(part, words):
        if part[0] == "word":
            return words[0]
        if part[0] == "behind":
            wide = len(words) - row_width(part[2])
            remains = answer(part[1], words[:wide])
            ask(part[2], words[wide:], remains[2])
            return remains[1]
        wide = row_width(part[1])
        remains = answer(part[2], words[wide:])
        ask(part[1], words[:wide], remains[1])
        return remains[2]

    ask(long, kinds[:-1], kinds[-1])
    return sorted(found)


def kind_of_size(chance, many, letters, texts):
    if many == 1:
        return ("plain", chance.choice(letters))
    left = chance.randrange(1, many)
    text = chance.choice(texts)
    return (text, kind_of_size(chance, left, letters, texts), kind_of_size(chance, many - left, letters, texts))


def any_row(chance, total, most, letters="ab", texts=("behind", "ahead")):
    """A row and a kind with so many letters together."""
    many = chance.randrange(1, min(most, total - 1) + 1)
    ends = sorted(chance.sample(range(1, total), many))
    sizes = [end - start for start, end in zip([0] + ends, ends + [total])]
    kinds = [kind_of_size(chance, size, letters, texts) for size in sizes]
    return kinds[:-1], kinds[-1]


def any_row_of_one_word(chance, total, most, letters="ab", texts=("behind", "ahead")):
    """A row and a kind, as in `any_row`, that have one word, as all that come have."""
    while True:
        row, kind = any_row(chance, total, most, letters, texts)
        if word(row) == word([kind]):
            return row, kind


def any_paper(chance, kind, deepest, texts):
    """A paper that shows a kind, with detours; `texts` are the ones that it may have, besides "same"."""
    ways = ["same"]
    if deepest > 0:
        ways += [text for text in ("behind", "ahead", "cut", "lower", "part") if text in texts or text == "lower"]
        ways += ["open"] * (3 if kind[0] != "plain" else 0)
    way = chance.choice(ways)
    if way == "same":
        return ("same", kind)
    if way == "open":
        return opened(chance, kind, deepest, texts)
    paper = any_paper(chance, kind, deepest - 1, texts)
    row = slow_shown(paper)[0]
    at = chance.randrange(len(row))
    if way == "part":
        return ("part", chance.randrange(len(row) - 1), paper) if len(row) > 1 else paper
    if way == "cut":
        return ("cut", at, paper, any_paper(chance, row[at], deepest - 1, texts))
    other = any_paper(chance, any_kind(chance, 2), deepest - 1, texts)
    if way == "lower":
        return ("cut", at, paper, ("ahead", 0, ("same", row[at]), other)) if "cut" in texts else paper
    return (way, at, paper, other)


def opened(chance, kind, deepest, texts):
    """A paper that shows a kind that is not plain, put together of its parts."""
    if kind[0] == "with":
        return ("join", any_paper(chance, kind[1], deepest - 1, texts), any_paper(chance, kind[2], deepest - 1, texts))
    if kind[0] == "behind":
        paper = ("behind", 0, any_paper(chance, kind[1], deepest - 1, texts), ("same", kind[2]))
        row = slow_shown(paper)[0]
        return ("givebehind", paper) if row[-1] == kind[2] else ("same", kind)
    return ("giveahead", ("ahead", 0, any_paper(chance, kind[2], deepest - 1, texts), ("same", kind[1])))


SINGLE = ("behind", "ahead", "cut")
ALL = ("behind", "ahead", "cut", "part")


def some_papers(many, texts=ALL):
    """A list of papers, always the same ones."""
    chance = random.Random(11)
    found = []
    while len(found) < many:
        kind = any_kind(chance, 3)
        if "part" in texts and chance.random() < 0.3:
            kind = ("with", kind, any_kind(chance, 2))
        paper = any_paper(chance, kind, chance.randrange(2, 6), texts)
        if paper[0] != "same":
            found.append(paper)
    return found
