"""Nogoods and refutations (points 5.1 to 5.6)."""

from probeweb.arcs import check_arc_sizes
from probeweb.errors import Malformed, Refused
from probeweb.refuting import SlimSearch, SpanSearch, refutation_by_cases
from probeweb.solving import openings_of
from probeweb.structures import check_alike, check_structure, is_pair, is_point, is_point_tuple

MOST_SEARCHED = 24
MOST_VALUES = 8
MOST_ROWS = 20000
MOST_SPANNED = 12
MOST_SPAN_VALUES = 5


def is_choice(A, B, value):
    """True for a pair of a point of `A` and one of `B`."""
    return is_pair(value) and is_point(value[0], A[0]) and is_point(value[1], B[0])


def _is_nogood(A, B, value):
    if not (isinstance(value, tuple) and all([is_choice(A, B, choice) for choice in value])):
        return False
    return all([value[k][0] < value[k + 1][0] for k in range(len(value) - 1)])


def is_nogood(A, B, value):
    """True if the value is a nogood, for every value."""
    check_alike(A, B)
    return _is_nogood(A, B, value)


def is_fact_index(A, t, i):
    """True if the table `t` of `A` has a fact with the index `i`."""
    return is_point(t, len(A[1])) and is_point(i, len(A[1][t][1]))


def fact_openings(A, B, nogood, t, i):
    """The ascending tuple of the openings of a fact under a nogood."""
    check_alike(A, B)
    if not (_is_nogood(A, B, nogood) and is_fact_index(A, t, i)):
        raise Malformed("no nogood or no fact")
    return openings_of(B, t, A[1][t][1][i], dict(nogood), {})


def _is_within(nogood, held):
    return all([held.get(x) == v for x, v in nogood])


def _holds_by_point(A, B, rows, k):
    """True if the row has a right reason "point"."""
    nogood, (_, x, js) = rows[k]
    held = dict(nogood)
    if not is_point(x, A[0]) or x in held or not is_point_tuple(js, k, B[0]):
        return False
    for v, j in enumerate(js):
        if not _is_within(rows[j][0], {**held, x: v}):
            return False
    return True


def _holds_by_fact(A, B, rows, k, told):
    """True if the row has a right reason "fact"."""
    nogood, (_, t, i, js) = rows[k]
    if not is_fact_index(A, t, i):
        return False
    held = dict(nogood)
    fact = A[1][t][1][i]
    openings = openings_of(B, t, fact, held, told)
    if not is_point_tuple(js, k, len(openings)):
        return False
    for opening, j in zip(openings, js):
        if not _is_within(rows[j][0], {**held, **{x: b for x, b in zip(fact, opening)}}):
            return False
    return True


def _is_right_row(A, B, rows, k, told):
    """True if the row is one of a refutation, for every value of it."""
    if not (is_pair(rows[k]) and _is_nogood(A, B, rows[k][0]) and isinstance(rows[k][1], tuple)):
        return False
    reason = rows[k][1]
    if len(reason) == 3 and reason[0] == "point":
        return _holds_by_point(A, B, rows, k)
    return len(reason) == 4 and reason[0] == "fact" and _holds_by_fact(A, B, rows, k, told)


def refuted_nogood(A, B, value):
    """The nogood with which the value ends if it is a refutation, else None, for every value."""
    check_alike(A, B)
    return ended_nogood(A, B, value)


def ended_nogood(A, B, value):
    """As `refuted_nogood`, for any number of tables and without a check."""
    if not (isinstance(value, tuple) and len(value) > 0):
        return None
    told = {}
    for k in range(len(value)):
        if not _is_right_row(A, B, value, k, told):
            return None
    return value[-1][0]


def nogood_length(rows):
    """The greatest number of choices in a nogood of a refutation."""
    return max([len(nogood) for nogood, _ in rows])


def row_span(A, rows):
    """The greatest span of the rows of a refutation."""
    check_structure(A)
    spans = []
    for nogood, reason in rows:
        met = (reason[1],) if reason[0] == "point" else A[1][reason[1]][1][reason[2]]
        spans.append(len(set([x for x, _ in nogood] + list(met))))
    return max(spans)


def case_number(rows):
    """The case number of a refutation."""
    numbers = []
    for _, reason in rows:
        numbers.append(1 + sum([numbers[j] for j in reason[-1]]))
    return numbers[-1]


def slim_refutation(A, B):
    """A slim refutation of `A` and `B`, or None if there is none."""
    check_alike(A, B)
    check_arc_sizes(A, B)
    return SlimSearch(A, B).refutation()


def case_refutation(A, B):
    """A refutation of `A` and `B`, or None if `A` maps into `B`."""
    check_alike(A, B)
    if A[0] > MOST_SEARCHED or B[0] > MOST_VALUES:
        raise Refused("large")
    return refutation_by_cases(A, B, MOST_ROWS)


def span_refutation(A, B):
    """A refutation of `A` and `B` all of whose rows have a span of at most 3, or None."""
    check_alike(A, B)
    if A[0] > MOST_SPANNED or B[0] > MOST_SPAN_VALUES:
        raise Refused("large")
    return SpanSearch(A, B).refutation()
