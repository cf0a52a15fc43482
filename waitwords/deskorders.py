"""The texts of orders to a desk, and of its answers."""

from waitwords.bookchecks import is_word
from waitwords.errors import Unreadable
from waitwords.kindparts import is_letter
from waitwords.kindtexts import kind_in

# What stands behind the first word of an order: n for a name, w for a word, l for a letter, k for a kind.
ORDERS = {"put": "nk", "behind": "nnn", "ahead": "nnn", "with": "nnn", "lifted": "nnn", "turned": "nn",
          "swapped": "nnln", "teach": "wn", "forget": "wn", "drop": "n", "branch": "n", "switch": "n", "undo": "",
          "show": "n", "book": "", "forks": "", "names": "", "same": "n"}

# The first words of the orders behind which there stand a list, "to" and a name.
LISTS = ("comes", "lets", "count")

# The first words of the orders that ask, and change nothing.
QUESTIONS = ("show", "book", "comes", "lets", "count", "forks", "names", "same")

# The word that ends the list in these orders, and is no name.
END = "to"


def is_name(text):
    """Tell whether a text is a name."""
    return is_word(text) and text != END


def read_order(text):
    """Return the tuple of the first word of an order and the list of what stands behind it, kinds as such.

    Of an order with a list this is what comes, the list and the name. Unreadable is raised for what is no order.
    """
    words = text.split(" ")
    verb, told = words[0], words[1:]
    if verb in LISTS:
        found = list_and_name(told)
    else:
        found = parts_in(told, ORDERS[verb]) if verb in ORDERS else None
    if found is None:
        raise Unreadable(text)
    return verb, found


def list_and_name(told):
    """Return the list of the names or words ahead of the last "to", and the name behind it, None if there are none."""
    if len(told) < 3 or told[-2] != END or not all([is_name(text) for text in told[:-2] + told[-1:]]):
        return None
    return [told[:-2], told[-1]]


def parts_in(told, form):
    """Return the list of what has these texts, in a form as the orders have it, None if one has not."""
    if len(told) != len(form):
        return None
    found = [part_in(text, sort) for text, sort in zip(told, form)]
    return None if None in found else found


def part_in(text, sort):
    """Return what has a text, of a sort that a form tells, None if nothing has."""
    if sort == "k":
        return kind_in(text)
    right = is_letter(text) if sort == "l" else is_name(text)
    return text if right else None


def names_text(names):
    """Return the text of some names."""
    return " ".join(names) if names else "none"
