"""What texts of papers hold; None of a text that is none. Nothing is raised here."""

from waitwords.kindparts import is_letter
from waitwords.kindtexts import kind_in, only_tuple

# What stands between the brackets of a paper: n for a place, p for a paper.
PAPER_FORMS = {"givebehind": "p", "giveahead": "p", "join": "p;p", "behind": "n;p;p", "ahead": "n;p;p",
               "cut": "n;p;p", "part": "n;p"}

DIGITS = "0123456789"

# How many digits a place has at most.
MOST_DIGITS = 4


def paper_in(text):
    """Return the paper that has a text."""
    stack = []
    at = 0
    while at < len(text):
        token, at = token_at(text, at)
        if token == "]":
            token = closed_paper(stack)
        if token is None:
            return None
        stack.append(token)
    return only_tuple(stack)


def token_at(text, at):
    """Return the token at a place and where it ends: a whole "same", the head of a paper, a place, or a sign."""
    end = run_end(text, at)
    if end == at:
        return text[at], at + 1
    if text[at] in DIGITS:
        return number_in(text[at:end]), end
    name = text[at:end]
    if text[end:end + 1] != "[":
        return None, end
    if name == "same":
        return same_at(text, end + 1)
    # Another name on the stack would be taken for what stands between brackets.
    return (name if name in PAPER_FORMS else None), end + 1


def same_at(text, at):
    """Return the "same" whose kind begins at a place, None if there is none, and where it ends."""
    end = text.find("]", at)
    kind = None if end < 0 else kind_in(text[at:end])
    if kind is None:
        return None, len(text)
    return ("same", kind), end + 1


def run_end(text, at):
    """Return where the letters, or the digits, end that begin at a place."""
    end = at
    while end < len(text) and (text[end] in DIGITS if text[at] in DIGITS else is_letter(text[end])):
        end += 1
    return end


def number_in(digits):
    """Return the number that has these digits, None if they are too many, or have a zero ahead."""
    if len(digits) > MOST_DIGITS or len(digits) > 1 and digits[0] == "0":
        return None
    return int(digits)


def closed_paper(stack):
    """Take a head, and all behind it, from the end of a stack; return the paper, None if there is none."""
    start = len(stack) - 1
    while start >= 0 and not is_head(stack[start]):
        start -= 1
    if start < 0:
        return None
    told = stack[start + 1:]
    name = stack[start]
    del stack[start:]
    if "".join([sign_of(thing) for thing in told]) != PAPER_FORMS[name]:
        return None
    return (name,) + tuple([thing for thing in told if not isinstance(thing, str)])


def is_head(thing):
    """Tell whether a thing on a stack is the head of a paper."""
    return isinstance(thing, str) and thing in PAPER_FORMS


def sign_of(thing):
    """Return n for a place, p for a paper, and a text itself."""
    if isinstance(thing, int):
        return "n"
    return "p" if isinstance(thing, tuple) else thing
