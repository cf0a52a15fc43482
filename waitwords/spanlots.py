"""Lots: the things that kinds and rows have by the products of a span. Nothing is checked here."""


def made_of(products, first, second):
    """Return the lot of all that a thing of one lot and then one of another lot make."""
    return sorted(set([products[one][other] for one in first for other in second]))


def taking_behind(products, wanted, taken):
    """Return the lot of all things that with each thing of one lot behind them make one of another lot."""
    return [one for one in range(len(products)) if all([products[one][other] in wanted for other in taken])]


def taking_ahead(products, wanted, taken):
    """Return the lot of all things that with each thing of one lot ahead of them make one of another lot."""
    return [one for one in range(len(products)) if all([products[other][one] in wanted for other in taken])]


def kind_lot(products, kind, table):
    """Return the lot of a kind; a dict tells those of letters, which else have the empty one."""
    if kind[0] == "plain":
        return list(table.get(kind[1], []))
    first = kind_lot(products, kind[1], table)
    second = kind_lot(products, kind[2], table)
    if kind[0] == "behind":
        return taking_behind(products, first, second)
    if kind[0] == "ahead":
        return taking_ahead(products, second, first)
    return made_of(products, first, second)


def lot_of_row(products, row, table):
    """Return the lot of a row."""
    found = kind_lot(products, row[0], table)
    for kind in row[1:]:
        found = made_of(products, found, kind_lot(products, kind, table))
    return found


def outside_first_triple(products):
    """Return the first triple of things whose product hangs on how they are grouped, None if there is none."""
    many = range(len(products))
    for i in many:
        for j in many:
            for k in many:
                if products[products[i][j]][k] != products[i][products[j][k]]:
                    return i, j, k
    return None


def is_table(products):
    """Tell whether products are n lists of n integers from 0 to n - 1."""
    many = len(products)
    return many > 0 and all([len(row) == many and all([0 <= thing < many for thing in row]) for row in products])


def is_lot(told, many):
    """Tell whether a list of things is a lot of a span with so many things."""
    return told == sorted(set(told)) and are_things(told, many)


def are_things(told, many):
    """Tell whether all of a list are things of a span with so many things."""
    return all([0 <= thing < many for thing in told])


def text_products(texts):
    """Return the products of texts, put together, the last thing standing for all that are too long."""
    last = len(texts) - 1
    places = {text: place for place, text in enumerate(texts[:last])}
    found = [[places.get(one + other, last) for other in texts[:last]] + [last] for one in texts[:last]]
    return found + [[last] * (last + 1)]


def texts_of(signs, length):
    """Return the list of all texts of one to so many signs, by their lengths and then ascending."""
    groups = [list(signs)]
    while len(groups) < length:
        groups.append([text + sign for text in groups[-1] for sign in signs])
    return [text for group in groups for text in group]
