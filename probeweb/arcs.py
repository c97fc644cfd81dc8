"""Closed lists, their rounds, and the trees that tell them (points 3.1 to 3.7).

A list of points of `B` is a mask here: an integer whose binary digit `b`
is 1 if the point `b` is in the list.
"""

from probeweb.errors import Malformed, Refused
from probeweb.structures import (
    check_alike, check_structure, facts_at, greatest_table, is_point_set)
from probeweb.whole import is_number_from

MOST_VARIABLES = 60
MOST_VALUES = 12
MOST_FACTS = 400
MOST_ROUNDS = 800
MOST_DEPTH = 60


def check_arc_sizes(A, B):
    """Refuses what is beyond the bounds of this chapter."""
    if A[0] > MOST_VARIABLES or B[0] > MOST_VALUES:
        raise Refused("large")
    if greatest_table(A) > MOST_FACTS or greatest_table(B) > MOST_FACTS:
        raise Refused("large")


def check_arc_pair(A, B):
    """The errors of functions of two structures of this chapter."""
    check_alike(A, B)
    check_arc_sizes(A, B)


def _spots_of(A):
    """The triples of a table, a place and a fact of it."""
    return [(t, place, row) for t, (arity, rows) in enumerate(A[1]) for row in rows for place in range(arity)]


def _support(B, t, place, masks):
    """The mask of the points at the place of the rows whose other points are in the masks, in order."""
    told = 0
    for row in B[1][t][1]:
        met = 1 << row[place]
        for mask, b in zip(masks, row[:place] + row[place + 1:]):
            if mask >> b & 1 == 0:
                met = 0
        told = told | met
    return told


def _support_at(B, spot, lists, told):
    """The support of a spot by the lists of the other points of its fact; `told` keeps what is known."""
    t, place, row = spot
    masks = tuple([lists[a] for a in row[:place] + row[place + 1:]])
    if (t, place, masks) not in told:
        told[(t, place, masks)] = _support(B, t, place, masks)
    return told[(t, place, masks)]


def _watched_by(A, spots):
    """For each point of `A` the numbers of the spots that have it at another place of their fact."""
    watched = [{} for _ in range(A[0])]
    for k, (_, place, row) in enumerate(spots):
        for a in row[:place] + row[place + 1:]:
            watched[a][k] = True
    return watched


def _rounds(A, B):
    """The lists of the rounds, up to the first one that is equal to the next one."""
    spots = _spots_of(A)
    watched = _watched_by(A, spots)
    told = {}
    lists = [(1 << B[0]) - 1] * A[0]
    rounds = [lists]
    due = {k: True for k in range(len(spots))}
    while due:
        after = list(lists)
        for k in due:
            a = spots[k][2][spots[k][1]]
            after[a] = after[a] & _support_at(B, spots[k], lists, told)
        changed = [a for a in range(A[0]) if after[a] != lists[a]]
        if changed:
            rounds.append(after)
        lists = after
        due = {k: True for a in changed for k in watched[a]}
    return rounds


def _written(lists, n):
    """Masks as ascending tuples."""
    return tuple([tuple([b for b in range(n) if mask >> b & 1 == 1]) for mask in lists])


def greatest_lists(A, B):
    """The greatest closed lists."""
    check_arc_pair(A, B)
    return _written(_rounds(A, B)[-1], B[0])


def lists_stand(A, B):
    """True if no greatest closed list is empty."""
    check_arc_pair(A, B)
    return 0 not in _rounds(A, B)[-1]


def list_round(A, B, k):
    """The lists of the round `k`."""
    check_alike(A, B)
    if not (is_number_from(k, 0) and k <= MOST_ROUNDS):
        raise Malformed("no number of a round")
    check_arc_sizes(A, B)
    rounds = _rounds(A, B)
    return _written(rounds[min(k, len(rounds) - 1)], B[0])


def is_closed_lists(A, B, value):
    """True if the value is closed lists for `A` and `B`, for every value."""
    check_arc_pair(A, B)
    if not (isinstance(value, tuple) and len(value) == A[0] and all([is_point_set(row, B[0]) for row in value])):
        return False
    lists = [sum([1 << b for b in row]) for row in value]
    told = {}
    for spot in _spots_of(A):
        if lists[spot[2][spot[1]]] & ~_support_at(B, spot, lists, told) != 0:
            return False
    return True


def cover_tree(A, k):
    """The rows of the cover of `A` to the depth `k`."""
    check_structure(A)
    if not (is_number_from(k, 0) and k <= MOST_DEPTH):
        raise Malformed("no depth")
    if greatest_table(A) > MOST_FACTS:
        raise Refused("large")
    n = A[0]
    rows = [()] * n
    spots = [_ordered_spots(A, a) for a in range(n)]
    for j in range(k):
        for a in range(n):
            rows.append(tuple([(t, place, tuple([j * n + y for y in others]), 1) for t, place, others in spots[a]]))
    return tuple(rows)


def _ordered_spots(A, a):
    """The tables, places and other points of the facts at `a`, by the table, the fact and the place."""
    triples = sorted([(t, row, place) for t, place, row in facts_at(A, a)])
    return [(t, place, row[:place] + row[place + 1:]) for t, row, place in triples]


def _stages(rounds):
    """For each round and point the last round up to it in which the list of the point has changed."""
    stages = [[0] * len(rounds[0])]
    for k in range(1, len(rounds)):
        before = stages[-1]
        changed = [rounds[k][a] != rounds[k - 1][a] for a in range(len(before))]
        stages.append([k if changed[a] else before[a] for a in range(len(before))])
    return stages


def _causes(B, rounds, spots, a, k):
    """Spots at `a` that take from its list, between them, all that it has lost up to the round `k`.

    A dict from the table, place and other points to the round whose lists
    do it, the last one if there are more.
    """
    causes = {}
    told = {}
    for j in range(1, k + 1):
        lost = rounds[j - 1][a] & ~rounds[j][a]
        if lost == 0:
            continue
        for t, place, row in spots:
            support = _support_at(B, (t, place, row), rounds[j - 1], told)
            if lost & ~support != 0:
                causes[(t, place, row[:place] + row[place + 1:])] = j - 1
                lost = lost & support
    return causes


def _empty_at(rounds):
    """The pair of the first round with an empty list, and its point; None if there is none."""
    for k, lists in enumerate(rounds):
        if 0 in lists:
            return k, lists.index(0)
    return None


def arc_probe(A, B):
    """A tree that maps into `A` and not into `B`, or None if the lists stand."""
    check_arc_pair(A, B)
    rounds = _rounds(A, B)
    root = _empty_at(rounds)
    if root is None:
        return None
    return _tree_of(A, B, rounds, root)


def _tree_of(A, B, rounds, root):
    """The tree of the root: its rows have, in `B`, reaches within the lists of a round and a point."""
    stages = _stages(rounds)
    causes = {}
    waiting = [root]
    while waiting:
        k, a = waiting.pop()
        if k == 0 or (k, a) in causes:
            continue
        causes[(k, a)] = _causes(B, rounds, facts_at(A, a), a, k)
        waiting.extend([(stages[j][y], y) for (_, _, others), j in causes[(k, a)].items() for y in others])
    numbers = {(0, a): 0 for a in range(A[0])}
    rows = [()]
    for k, a in sorted(causes):
        numbers[(k, a)] = len(rows)
        rows.append(tuple([
            (t, place, tuple([numbers[(stages[j][y], y)] for y in others]), 1)
            for (t, place, others), j in causes[(k, a)].items()]))
    return tuple(rows)
