"""The forms of papers (point 16.1)."""


def is_paper_of(paper, word, size):
    """True for a tuple of so many items, the first of them the word, for every value."""
    return isinstance(paper, tuple) and len(paper) == size and paper[0] == word


def is_same(value, told):
    """True if both are equal, and no truth value stands for an integer; `told` is made of integers and tuples."""
    if value != told:
        return False
    left = [value]
    while left:
        if any([isinstance(item, bool) for item in left]):
            return False
        left = [item for items in left if isinstance(items, tuple) for item in items]
    return True
