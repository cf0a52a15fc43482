"""What texts of kinds, rows and books hold; None of a text that is none. Nothing is raised here.

Each text is gone through once, from the left; a stack holds what stands open.
"""

from waitwords.kindparts import is_letter

# The first text of a kind by what stands between its two parts.
KIND_SIGNS = {"/": "behind", "\\": "ahead", ".": "with"}


def closed(stack):
    """Take "(", a tuple, a text and a tuple from the end of a stack; return the last three, None if they are not."""
    if len(stack) < 4 or stack[-4] != "(" or not isinstance(stack[-2], str):
        return None
    if not isinstance(stack[-3], tuple) or not isinstance(stack[-1], tuple):
        return None
    found = stack[-3:]
    del stack[-4:]
    return found


def only_tuple(stack):
    """Return the only thing on a stack, if it is a tuple, None if not."""
    return stack[0] if len(stack) == 1 and isinstance(stack[0], tuple) else None


def kind_in(text):
    """Return the kind that has a text."""
    stack = []
    for sign in text:
        if is_letter(sign):
            stack.append(("plain", sign))
        elif sign == ")":
            found = closed(stack)
            if found is None or found[1] not in KIND_SIGNS:
                return None
            stack.append((KIND_SIGNS[found[1]], found[0], found[2]))
        else:
            stack.append(sign)
    return only_tuple(stack)


def row_in(text):
    """Return the row that has a text."""
    row = [kind_in(part) for part in text.split(" , ")]
    return None if None in row else row


def entries_in(text):
    """Return the entries of a book that has a text; its words, and whether kinds are alike, are not looked at."""
    if text == "none":
        return []
    entries = []
    for part in text.split(" ; "):
        word, sign, rest = part.partition(": ")
        kinds = row_in(rest)
        if not sign or kinds is None:
            return None
        entries.append((word, kinds))
    return entries
