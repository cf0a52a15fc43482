"""Rules of flat books: trees of rules, and how many of them there are at all lengths."""

from waitwords.bookchecks import check_at_least, check_word
from waitwords.bookrows import word_and_text
from waitwords.errors import NotFlat
from waitwords.flatkinds import greatest_lengths, has_endless_parses, is_flat_kind, least_lengths
from waitwords.flatkinds import rule_of_kind, rules_in_parses
from waitwords.kindchecks import check_kinds, check_letter
from waitwords.parsetables import ParseTable


def is_flat(kind):
    """Tell whether a kind is plain, or waits for plain kinds alone, one by one."""
    check_kinds([kind])
    return is_flat_kind(kind)


def rule_of(word, kind):
    """Return the rule (letter, before, word, after) of a word and a flat kind."""
    check_word(word)
    check_kinds([kind])
    _check_flat([kind])
    return rule_of_kind(word, kind)


def rules(book):
    """Return the list of the rules of a book, word by word, kind by kind."""
    entries = book.entries
    _check_flat([kind for _, kinds in entries for kind in kinds])
    return [rule_of_kind(word, kind) for word, kinds in entries for kind in kinds]


def kind_of_rule(rule):
    """Return the kind that waits for what a rule wants behind first, then for what it wants ahead, nearest first."""
    letter, before, _, after = rule
    found = ("plain", letter)
    for wanted in before:
        found = ("ahead", ("plain", wanted), found)
    for wanted in after[::-1]:
        found = ("behind", found, ("plain", wanted))
    return found


def numbers(book, letter, most):
    """Return the list that tells for each length from 0 to the most how many parses of a letter have so many words."""
    told = _checked_rules(book, letter)
    check_at_least(most, 0)
    counts = ParseTable(told, most).counts
    return list(counts[letter]) if letter in counts else [0] * (most + 1)


def least_length(book, letter):
    """Return the least length of a parse of a letter, None if there is none."""
    return least_lengths(_checked_rules(book, letter)).get(letter)


def is_endless(book, letter):
    """Tell whether there are parses of a letter of ever greater lengths."""
    return has_endless_parses(rules_in_parses(_checked_rules(book, letter), letter))


def greatest_length(book, letter):
    """Return the greatest length of a parse of a letter, None if there is no parse, or no greatest length."""
    told = rules_in_parses(_checked_rules(book, letter), letter)
    return None if has_endless_parses(told) else greatest_lengths(told).get(letter)


def useless(book, letter):
    """Return the list of the tuples (word, kind) that stand in no parse of a letter.

    They ascend by their words and then by the kinds' texts.
    """
    used = rules_in_parses(_checked_rules(book, letter), letter)
    pairs = [(word, kind) for word, kinds in book.entries for kind in kinds]
    return sorted([pair for pair in pairs if rule_of_kind(pair[0], pair[1]) not in used], key=word_and_text)


def nth_list(book, letter, length, number):
    """Return the list of words of the parse of a letter with a number, of a length, None if there is none."""
    told = _checked_rules(book, letter)
    check_at_least(length, 0)
    check_at_least(number, 0)
    return ParseTable(told, length).words_of(letter, length, number)


def _checked_rules(book, letter):
    """Return the rules of a book, once it and a letter are checked."""
    told = rules(book)
    check_letter(letter)
    return told


def _check_flat(kinds):
    """Raise NotFlat for the first of some kinds that is not flat."""
    for kind in kinds:
        if not is_flat_kind(kind):
            raise NotFlat(kind)
