"""What texts of readings and trees hold; None of a text that is none. Nothing is raised here."""

from waitwords.bookchecks import is_word
from waitwords.kindparts import is_letter
from waitwords.kindtexts import closed, kind_in, only_tuple

# The first text of a reading or a tree by what stands between its two parts.
TREE_SIGNS = {" > ": "behind", " < ": "ahead"}

# That of a give by what it begins with.
GIVES = {"b[": "givebehind", "a[": "giveahead"}


def reading_in(text):
    """Return the reading that has a text; its width is not looked at."""
    return put_together_in(reading_tokens(text))


def tree_in(text):
    """Return the tree that has a text."""
    return put_together_in(tree_tokens(text))


def put_together_in(tokens):
    """Return the reading or tree of a list of tokens: tuples of words, lists of gives, and texts."""
    stack = []
    for token in tokens:
        if token == ")":
            found = closed(stack)
            if found is None or found[1] not in TREE_SIGNS:
                return None
            add_whole(stack, (TREE_SIGNS[found[1]], found[0], found[2]))
        elif isinstance(token, tuple):
            add_whole(stack, token)
        else:
            stack.append(token)
    return only_tuple(stack)


def add_whole(stack, tree):
    """Put a whole reading or tree on a stack, in the gives of which it is the end."""
    while stack and isinstance(stack[-1], list):
        text, kind = stack.pop()
        tree = (text, kind, tree)
    stack.append(tree)


def reading_tokens(text):
    """Return the list of the tokens of the text of a reading; one of no reading may stand in it as it is."""
    found = []
    at = 0
    while at < len(text):
        head = text[at:at + 2]
        if head in GIVES:
            inner = text[at + 2:].partition("]")[0]
            kind = kind_in(inner)
            # The head alone, where no kind is, stands in no reading.
            found.append(head if kind is None else [GIVES[head], kind])
            at += len(head) + len(inner) + 1
        else:
            token = sign_at(text, at)
            found.append(("word",) if token == "*" else token)
            at += len(token)
    return found


def tree_tokens(text):
    """Return the list of the tokens of the text of a tree; one of no tree may stand in it as it is."""
    found = []
    at = 0
    while at < len(text):
        end = at
        while end < len(text) and is_letter(text[end]):
            end += 1
        token = text[at:end] if end > at else sign_at(text, at)
        found.append(("leaf", token) if is_word(token) else token)
        at += len(token)
    return found


def sign_at(text, at):
    """Return what stands between two parts of a reading or a tree, if it stands at a place, else the sign there."""
    return text[at:at + 3] if text[at:at + 3] in TREE_SIGNS else text[at]
