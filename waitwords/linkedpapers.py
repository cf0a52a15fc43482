"""The paper without "cut" that makes told links."""

from waitwords.kindnumbers import KindNumbers
from waitwords.kindparts import swap_letters
from waitwords.lasttuples import last_tuples


def paper_by_marks(row, kind, table):
    """Return the paper without "cut" of a row and a kind with marks, None if there is none.

    Each mark stands twice, where the paper links two letters; the dict tells the plain kind of each mark.
    """
    numbers = KindNumbers()
    goal = numbers.number(kind)
    numbered = numbers.row_numbers(row)
    if not numbers.have_one_spelling(numbered, goal):
        return None
    heads = []
    left = [(numbered, goal)]
    while left:
        inner_row, inner_goal = left.pop()
        # What the links divide at one place they divide in each paper, so the first tuple is as good as any.
        told = last_tuples(numbers, inner_row, inner_goal)
        if not told:
            return None
        head, inner = told[0]
        heads.append((unmarked(head, table), len(inner)))
        left.extend(inner[::-1])
    return paper_of_heads(heads)


def unmarked(head, table):
    """Return the first part of a paper with letters in the place of marks."""
    return ("same", swap_letters(head[1], table)) if head[0] == "same" else head


def paper_of_heads(heads):
    """Return the paper of a list of tuples (head, number of papers within), a part ahead of those within it."""
    stack = []
    for head, many in reversed(heads):
        papers = [stack.pop() for _ in range(many)]
        stack.append(head + tuple(papers))
    return stack[0]
