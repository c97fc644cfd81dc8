"""Judges of papers of templates (points 16.1 and 16.14 to 16.17)."""

from probeweb.instances import index_of, special_instance
from probeweb.maps import is_map, maps_into
from probeweb.operations import MOST_ITEMS, keeps_tables, least_breaking
from probeweb.papers import is_paper_of
from probeweb.refutations import ended_nogood
from probeweb.structures import is_pair, is_point, is_point_tuple
from probeweb.templates import (
    CLASS_OPERATIONS, MOST_LISTED, class_holds, lists_of_points, raised_row, take_raised)
from probeweb.whole import raised_to


def _breaks(B, rows, f):
    """True for an operation of `B` that makes of the rows, in order, a row that is none of them."""
    n, m = B[0], len(rows)
    if not is_point_tuple(f, n, raised_to(n, m)) or not keeps_tables(f, B, m):
        return False
    made = tuple([f[index_of([row[place] for row in rows], n)] for place in range(len(rows[0]))])
    return made not in rows


def _has_operations(B, k):
    """True if operations of so many arguments are not too great (point 10.1)."""
    return raised_to(B[0], k) <= MOST_ITEMS


def takes_defined(B, rows, paper):
    """True for a definable table, or an operation that breaks it, for every paper."""
    if not _has_operations(B, len(rows)):
        return False
    if is_paper_of(paper, "formula", 1):
        return least_breaking(B, rows) is None
    return is_paper_of(paper, "operation", 2) and _breaks(B, rows, paper[1])


def takes_decided(B, paper):
    """True for a map of the structure of lists into the template, or a refutation, for every paper."""
    if B[0] > MOST_LISTED:
        return False
    if is_paper_of(paper, "back", 2):
        return maps_into(paper[1], lists_of_points(B, None), B)
    return is_paper_of(paper, "stuck", 2) and ended_nogood(lists_of_points(B, None), B, paper[1]) == ()


def takes_special(B, word, paper):
    """True for an operation of the kind that the word tells, or a refutation that there is one, for every paper."""
    if not _has_operations(B, 3):
        return False
    # The tables of the power may have more rows here than others have.
    one, two = special_instance(B, 3, word)
    if is_paper_of(paper, "operation", 2):
        return maps_into(paper[1], one, two)
    return is_paper_of(paper, "none", 2) and ended_nogood(one, two, paper[1]) == ()


def _facts_of(A):
    return [{row: True for row in rows} for _, rows in A[1]]


def _is_fact(A, facts, t, row):
    """True for a table and a fact of it; `facts` are those of all tables."""
    return is_point(t, len(facts)) and is_point_tuple(row, A[0], A[1][t][0]) and row in facts[t]


def _is_lost(A, B, t):
    """True for a table of which `A` has a fact and `B` no row."""
    return is_point(t, len(A[1])) and len(A[1][t][1]) > 0 and len(B[1][t][1]) == 0


def _is_raised(A, B, before, steps):
    """True for steps that change values as they must be, up to a fact that no row fits."""
    facts = _facts_of(A)
    if not (isinstance(steps, tuple) and len(steps) > 0):
        return False
    if not all([is_pair(step) and _is_fact(A, facts, step[0], step[1]) for step in steps]):
        return False
    values = [before] * A[0]
    for t, row in steps[:-1]:
        raised = raised_row(B[1][t][1], tuple([values[x] for x in row]), before)
        if raised is None:
            return False
        take_raised(values, row, raised, before)
    t, row = steps[-1]
    return raised_row(B[1][t][1], tuple([values[x] for x in row]), before) is None


def _is_step(A, B, facts, value):
    """True for a step of point 16.17."""
    if not (isinstance(value, tuple) and len(value) == 6 and _is_fact(A, facts, value[0], value[1])):
        return False
    t, _, i, a, j, b = value
    if not (is_point_tuple((i, j), A[1][t][0], 2) and is_point_tuple((a, b), 2, 2)):
        return False
    return not any([row[i] == a and row[j] == b for row in B[1][t][1]])


def _ends_of(A, B, facts, steps):
    """The values of points from which and to which steps lead, one behind the other; None for other steps."""
    if not (isinstance(steps, tuple) and len(steps) > 0 and all([_is_step(A, B, facts, step) for step in steps])):
        return None
    starts = [(row[i], a) for _, row, i, a, _, _ in steps]
    ends = [(row[j], 1 - b) for _, row, _, _, j, b in steps]
    return (starts[0], ends[-1]) if starts[1:] == ends[:-1] else None


def _is_round(A, B, there, back):
    """True for steps from the value 0 of a point to its value 1, and back."""
    facts = _facts_of(A)
    one, two = _ends_of(A, B, facts, there), _ends_of(A, B, facts, back)
    if one is None or two is None:
        return False
    x = one[0][0]
    return one == ((x, 0), (x, 1)) and two == ((x, 1), (x, 0))


def _is_equation(A, B, facts, value):
    """True for a fact with factors whose sum all rows of its table keep."""
    if not (isinstance(value, tuple) and len(value) == 3 and _is_fact(A, facts, value[0], value[1])):
        return False
    t, _, factors = value
    if not is_point_tuple(factors, 2, A[1][t][0] + 1):
        return False
    return all([sum([factor * v for factor, v in zip(factors, row)]) % 2 == factors[-1] for row in B[1][t][1]])


def _is_odd(A, B, rows):
    """True for equations whose sum has each point an even number of times and is odd."""
    facts = _facts_of(A)
    if not (isinstance(rows, tuple) and all([_is_equation(A, B, facts, row) for row in rows])):
        return False
    counts = [0] * A[0]
    for _, row, factors in rows:
        for x, factor in zip(row, factors):
            counts[x] += factor
    return all([count % 2 == 0 for count in counts]) and sum([factors[-1] for _, _, factors in rows]) % 2 == 1


def takes_class(A, B, word, paper):
    """True for a map, or what shows in the way of the class that there is none, for every paper."""
    if B[0] != 2 or word not in CLASS_OPERATIONS or not class_holds(B, word):
        return False
    if is_paper_of(paper, "map", 2):
        return is_map(paper[1], A, B)
    if is_paper_of(paper, "empty", 2):
        return _is_lost(A, B, paper[1])
    if is_paper_of(paper, "raised", 2) and word in ("least", "greatest"):
        return _is_raised(A, B, 0 if word == "least" else 1, paper[1])
    if is_paper_of(paper, "round", 3) and word == "most":
        return _is_round(A, B, paper[1], paper[2])
    return is_paper_of(paper, "sum", 2) and word == "odd" and _is_odd(A, B, paper[1])
