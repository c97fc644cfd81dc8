"""Strategies, their rounds, and the strands that tell them (points 4.1 to 4.8).

For each pair `(a, a')` of points of `A` and each point `b` of `B` a mask
tells the `b'` with `(b, b')` in the set of the pair: an integer whose
binary digit `b'` is 1 for these.
"""

from probeweb.errors import Malformed, Refused
from probeweb.structures import check_both_binary, is_ascending, is_point_tuple
from probeweb.whole import is_number_from

MOST_VARIABLES = 12
MOST_VALUES = 5
MOST_ROUNDS = 4000


def _check_sizes(A, B):
    if A[0] > MOST_VARIABLES or B[0] > MOST_VALUES:
        raise Refused("large")


def check_strategy_pair(A, B):
    """The errors of functions of two structures of this chapter."""
    check_both_binary(A, B)
    _check_sizes(A, B)


def _facts_on(A, a, c):
    """The tables and places, as for strands, of the facts all of whose points are `a` or `c`."""
    found = []
    for t, (_, rows) in enumerate(A[1]):
        for row in rows:
            if all([x in (a, c) for x in row]):
                found.append((t, tuple([0 if x == a else 1 for x in row])))
    return found


def _tables_of(B):
    return [{row: True for row in rows} for _, rows in B[1]]


def _keeps(told, facts, pair):
    """True if the pair takes each of the facts to a fact."""
    return all([tuple([pair[k] for k in places]) in told[t] for t, places in facts])


def _keeping_masks(A, B, a, c):
    """The masks of the pairs that keep `(a, c)`."""
    told = _tables_of(B)
    facts = _facts_on(A, a, c)
    masks = []
    for b in range(B[0]):
        values = [b] if a == c else list(range(B[0]))
        masks.append(sum([1 << d for d in values if _keeps(told, facts, (b, d))]))
    return masks


def _first_masks(A, B):
    points = range(A[0])
    return [[_keeping_masks(A, B, a, c) for c in points] for a in points]


def _lost_at(masks, a, b, c):
    """The pairs, with `b` at `a`, that cannot be continued to `c`, and the same ones turned."""
    lost = []
    for e in range(len(masks)):
        for d, further in enumerate(masks[e][c]):
            if masks[a][e][b] >> d & 1 == 1 and masks[a][c][b] & further == 0:
                lost.append((a, e, b, d))
                lost.append((e, a, d, b))
    return lost


def _play(A, B, most):
    """The masks of the round `most`, or of an earlier one that is equal, and the causes of each round.

    The causes of a round are a dict from the pairs that it takes away to a
    point to which they could not be continued.
    """
    masks = _first_masks(A, B)
    points = range(A[0])
    due = [(a, b, c) for a in points for b in range(B[0]) for c in points]
    rounds = []
    while due and len(rounds) < most:
        causes = {}
        for a, b, c in due:
            for lost in _lost_at(masks, a, b, c):
                causes.setdefault(lost, c)
        if causes:
            rounds.append(causes)
        for a, e, b, d in causes:
            masks[a][e][b] = masks[a][e][b] & ~(1 << d)
        due = list({(a, b, e): True for a, e, b, _ in causes})
    return masks, rounds


def _written(masks):
    """Masks in the form of a strategy."""
    return tuple([tuple([_pairs_of(told) for told in line]) for line in masks])


def _pairs_of(told):
    n = len(told)
    return tuple([(b, d) for b in range(n) for d in range(n) if told[b] >> d & 1 == 1])


def greatest_strategy(A, B):
    """The greatest strategy."""
    check_strategy_pair(A, B)
    return _written(_play(A, B, MOST_ROUNDS)[0])


def strategy_stands(A, B):
    """True if no set of the greatest strategy is empty."""
    check_strategy_pair(A, B)
    masks = _play(A, B, MOST_ROUNDS)[0]
    return all([any(told) for line in masks for told in line])


def strategy_round(A, B, k):
    """The sets of the round `k`."""
    check_both_binary(A, B)
    if not (is_number_from(k, 0) and k <= MOST_ROUNDS):
        raise Malformed("no number of a round")
    _check_sizes(A, B)
    return _written(_play(A, B, k)[0])


def _is_pair_set(value, B):
    """True for an ascending tuple of unlike pairs of points of `B`."""
    return isinstance(value, tuple) and all([is_point_tuple(pair, B[0], 2) for pair in value]) and is_ascending(value)


def _is_square(value, A, B):
    """True for a tuple of as many tuples of as many sets of pairs as there are points."""
    if not (isinstance(value, tuple) and len(value) == A[0]):
        return False
    for line in value:
        if not (isinstance(line, tuple) and len(line) == A[0] and all([_is_pair_set(told, B) for told in line])):
            return False
    return True


def _masks_of(value, n):
    """The masks of sets of pairs."""
    return [[[sum([1 << d for c, d in told if c == b]) for b in range(n)] for told in line] for line in value]


def _is_turned(masks, a, c):
    """True if the set of `(a, c)` is that of `(c, a)` turned."""
    n = len(masks[a][c])
    return all([masks[a][c][b] >> d & 1 == masks[c][a][d] >> b & 1 for b in range(n) for d in range(n)])


def is_strategy(A, B, value):
    """True if the value is a strategy for `A` and `B`, for every value."""
    check_strategy_pair(A, B)
    if not _is_square(value, A, B):
        return False
    masks = _masks_of(value, B[0])
    first = _first_masks(A, B)
    points = range(A[0])
    for a in points:
        for c in points:
            if not _is_turned(masks, a, c):
                return False
            if any([masks[a][c][b] & ~first[a][c][b] != 0 for b in range(B[0])]):
                return False
    return not any([_lost_at(masks, a, b, c) for a in points for b in range(B[0]) for c in points])


def _steps_of(A, rounds):
    """For each pair of points the list of the pairs of a round and the points that were its causes.

    The set of the pair got smaller in these rounds alone.
    """
    points = range(A[0])
    steps = {(a, c): [] for a in points for c in points}
    for k, causes in enumerate(rounds):
        reasons = {}
        for (a, e, _, _), c in causes.items():
            told = reasons.setdefault((a, e), {})
            told[c] = True
        for pair, causing in reasons.items():
            steps[pair].append((k + 1, sorted(causing)))
    return steps


def _stage(steps, pair, k):
    """The last round up to `k` in which the set of the pair got smaller."""
    return max([j for j, _ in steps[pair] if j <= k], default=0)


def _parts_of(steps, a, c, k):
    """The sets that the strand of the pair `(a, c)` for its stage `k` is made of.

    The first one is its own of the stage before; then come two by two those
    that are gone through.
    """
    points = [told for j, told in steps[(a, c)] if j == k][0]
    parts = [(_stage(steps, (a, c), k - 1), a, c)]
    for e in points:
        parts.append((_stage(steps, (a, e), k - 1), a, e))
        parts.append((_stage(steps, (e, c), k - 1), e, c))
    return parts


def _first_empty(masks, steps):
    """The first of the triples of a stage and a pair whose set is empty at the end, or None."""
    points = range(len(masks))
    empty = [(_stage(steps, (a, c), MOST_ROUNDS), a, c) for a in points for c in points if not any(masks[a][c])]
    return min(empty, default=None)


def pebble_probe(A, B):
    """A strand that maps into `A` and not into `B`, or None if the strategy stands."""
    check_strategy_pair(A, B)
    masks, rounds = _play(A, B, MOST_ROUNDS)
    steps = _steps_of(A, rounds)
    root = _first_empty(masks, steps)
    if root is None:
        return None
    return _strand_of(A, steps, root)


def _strand_of(A, steps, root):
    """The strand of the root: its rows have, in `B`, reaches within the sets of a round."""
    made = {}
    waiting = [root]
    while waiting:
        k, a, c = waiting.pop()
        if (k, a, c) not in made:
            made[(k, a, c)] = _parts_of(steps, a, c, k) if k > 0 else []
            waiting.extend(made[(k, a, c)])
    rows = []
    told = {}
    numbers = {}
    for key in sorted(made):
        parts = [numbers[part] for part in made[key]]
        if not parts:
            numbers[key] = _put_together(rows, told, _fact_rows(A, key[1], key[2]))
            continue
        through = [("through", parts[k], parts[k + 1]) for k in range(1, len(parts), 2)]
        numbers[key] = _joined(rows, told, parts[0], through)
    return tuple(rows[:numbers[root] + 1])


def _fact_rows(A, a, c):
    """The rows of the facts on both points, and "same" if they are one point."""
    rows = [("fact", t, places) for t, places in _facts_on(A, a, c)]
    if a == c:
        rows.append(("same",))
    return rows if rows else [("all",)]


def _row_number(rows, told, row):
    """The index of a row, which is put to the rows if it is a new one."""
    if row not in told:
        told[row] = len(rows)
        rows.append(row)
    return told[row]


def _put_together(rows, told, parts):
    """The index of a row with all these rows joined."""
    return _joined(rows, told, _row_number(rows, told, parts[0]), parts[1:])


def _joined(rows, told, first, parts):
    """The index of a row with the first row and all these rows joined."""
    number = first
    for part in parts:
        further = _row_number(rows, told, part)
        number = _row_number(rows, told, ("both", number, further))
    return number
