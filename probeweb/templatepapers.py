"""Papers of templates (points 16.14 to 16.17)."""

from probeweb.errors import Malformed, Refused
from probeweb.instances import special_instance
from probeweb.operations import breaking_operation, check_template, special_operation
from probeweb.refuting import refutation_by_cases
from probeweb.templates import class_map, list_map, list_structure, place_equations, raised_steps, steps_between

MOST_DECIDED = 3
MOST_TABLES = 3
SPECIAL = ("majority", "maltsev", "minority")


def defined_paper(B, rows):
    """That the table is definable, or an operation that breaks it."""
    f = breaking_operation(B, rows)
    return ("formula",) if f is None else ("operation", f)


def decided_paper(B):
    """A map of the structure of lists into the template, or a refutation."""
    check_template(B)
    if B[0] > MOST_DECIDED:
        raise Refused("large")
    f = list_map(B)
    return ("stuck", refutation_by_cases(list_structure(B), B, None)) if f is None else ("back", f)


def special_paper(B, word):
    """An operation of the kind that the word tells, or a refutation of the instance that asks for it."""
    check_template(B)
    if word not in SPECIAL:
        raise Malformed("no kind of operations with papers")
    if len(B[1]) > MOST_TABLES:
        raise Refused("large")
    f = special_operation(B, word)
    if f is not None:
        return "operation", f
    one, two = special_instance(B, 3, word)
    return "none", refutation_by_cases(one, two, None)


def _lost_tables(A, B):
    """The tables of which `A` has facts and `B` no rows."""
    return [t for t, (_, rows) in enumerate(A[1]) if rows and not B[1][t][1]]


def _way(steps, start, end):
    """The steps of a way from one value of a point to another one, or None."""
    before = {start: start}
    waiting = [start]
    at = 0
    while at < len(waiting):
        spot = waiting[at]
        at += 1
        for further in steps[spot]:
            if further not in before:
                before[further] = spot
                waiting.append(further)
    if end not in before:
        return None
    way = []
    while end != start:
        way.append(steps[before[end]][end])
        end = before[end]
    return tuple(way[::-1])


def _round_paper(A, B):
    """The ways from the value 0 of a point to its value 1 and back."""
    steps = steps_between(A, B)
    for x in range(A[0]):
        there, back = _way(steps, (x, 0), (x, 1)), _way(steps, (x, 1), (x, 0))
        if there is not None and back is not None:
            return "round", there, back
    return None


def _odd_equations(A, B):
    """The equations modulo 2 of all facts, each as a triple of point 16.17, with their masks.

    A mask has a digit for each point that stands an odd number of times in
    the equation, and one behind those of all points for an odd sum.
    """
    found = {}
    for t, (_, rows) in enumerate(A[1]):
        for factors, total in place_equations(B[1][t][1], 2) if rows else []:
            odd = tuple([factor % 2 for factor in factors])
            for row in rows:
                mask = (total % 2) << A[0]
                for x, factor in zip(row, odd):
                    mask = mask ^ factor << x
                found.setdefault(mask, (t, row, odd + (total % 2,)))
    return found


def _sum_paper(A, B):
    """Equations whose sum has each point an even number of times and is odd."""
    points = (1 << A[0]) - 1
    kept = []
    lines = []
    for mask, triple in _odd_equations(A, B).items():
        # `told` has a digit for each of the kept equations that were added.
        told = 1 << len(kept)
        for head, line, others in lines:
            if mask & head != 0:
                mask = mask ^ line
                told = told ^ others
        if mask != 0:
            kept.append(triple)
            if mask & points == 0:
                return "sum", tuple([kept[k] for k in range(len(kept)) if told >> k & 1 == 1])
            lines.append((mask & -mask, mask, told))
    return None


def class_paper(A, B, word):
    """A map found in the way of the class, or what shows in this way that there is none."""
    f = class_map(A, B, word)
    if f is not None:
        return "map", f
    lost = _lost_tables(A, B)
    if lost:
        return "empty", lost[0]
    if word == "most":
        return _round_paper(A, B)
    if word == "odd":
        return _sum_paper(A, B)
    return "raised", raised_steps(A, B, 0 if word == "least" else 1)[1]
