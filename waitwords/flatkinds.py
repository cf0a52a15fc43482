"""Flat kinds, the rules that they make of words, and which rules and letters stand in parses. Nothing is checked here.

A rule is a tuple (letter, before, word, after), as "waitwords/rules.py" tells.
"""


def is_flat_kind(kind):
    """Tell whether a kind is plain, or waits for plain kinds alone, one by one."""
    while kind[0] in ("behind", "ahead"):
        wanted, kind = taken_apart(kind)
        if wanted[0] != "plain":
            return False
    return kind[0] == "plain"


def taken_apart(kind):
    """Return the kind for which a kind waits, and what it is then."""
    if kind[0] == "behind":
        return kind[2], kind[1]
    return kind[1], kind[2]


def rule_of_kind(word, kind):
    """Return the rule of a word and a flat kind."""
    before = []
    after = []
    while kind[0] != "plain":
        text = kind[0]
        wanted, kind = taken_apart(kind)
        # What a kind waits for first stands nearest to the word.
        if text == "behind":
            after.append(wanted[1])
        else:
            before.insert(0, wanted[1])
    return kind[1], before, word, after


def wants(rule):
    """Return the list of the letters that a rule wants, from the left."""
    return rule[1] + rule[3]


def least_lengths(told):
    """Return for each letter that has a parse by a list of rules the least length of one."""
    return best_lengths(told, 1)


def greatest_lengths(told):
    """Return for each letter the greatest length of a parse; none of the rules wants its own letter, at any depth."""
    return best_lengths(told, -1)


def best_lengths(told, sign):
    """Return for each letter that has a parse the length of one that is least, times a sign."""
    found = {}
    changed = True
    while changed:
        changed = False
        for rule in told:
            if all([letter in found for letter in wants(rule)]):
                length = 1 + sum([found[letter] for letter in wants(rule)])
                if rule[0] not in found or sign * length < sign * found[rule[0]]:
                    found[rule[0]] = length
                    changed = True
    return found


def letters_wanted_by(told, letters):
    """Return the list of some letters and of all that rules want for them, at any depth."""
    found = list(letters)
    many = 0
    while many < len(found):
        wanted = [letter for rule in told if rule[0] == found[many] for letter in wants(rule)]
        for letter in wanted:
            if letter not in found:
                found.append(letter)
        many += 1
    return found


def rules_in_parses(told, letter):
    """Return the list of the rules that stand in a parse of a letter."""
    lengths = least_lengths(told)
    whole = [rule for rule in told if all([wanted in lengths for wanted in wants(rule)])]
    reached = letters_wanted_by(whole, [letter])
    return [rule for rule in whole if rule[0] in reached]


def has_endless_parses(told):
    """Tell whether one of some rules, all of which stand in parses, wants its own letter, at any depth."""
    return any([rule[0] in letters_wanted_by(told, wants(rule)) for rule in told])
