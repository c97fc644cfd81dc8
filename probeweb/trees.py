"""Trees as probes, told row by row (points 3.3 and 3.4)."""

from probeweb.errors import Malformed, Refused
from probeweb.structures import (
    MOST_POINTS, arities_of, check_kind, check_structure, is_point, is_point_tuple)
from probeweb.whole import check_modulus, is_number_from, raised_to, rest_of_power

MOST_COUNTED = 400


def _is_branch(value, kind, i):
    """True for a branch of the row `i`."""
    if not (isinstance(value, tuple) and len(value) == 4):
        return False
    t, place, sons, times = value
    if not (is_point(t, len(kind)) and is_point(place, kind[t])):
        return False
    return is_point_tuple(sons, i, kind[t] - 1) and is_number_from(times, 1)


def is_tree(value, kind):
    """True for a tree of the kind, for every value."""
    check_kind(kind)
    if not (isinstance(value, tuple) and len(value) > 0):
        return False
    for i, row in enumerate(value):
        if not (isinstance(row, tuple) and all([_is_branch(branch, kind, i) for branch in row])):
            return False
    return True


def _check_tree(tree, kind):
    if not is_tree(tree, kind):
        raise Malformed("no tree")


def _check_tree_in(tree, A):
    check_structure(A)
    _check_tree(tree, arities_of(A))


def _used_rows(tree):
    """For each row True if the last row is made of it, else False."""
    used = [False] * len(tree)
    used[-1] = True
    for i in reversed(range(len(tree))):
        if used[i]:
            for _, _, sons, _ in tree[i]:
                for j in sons:
                    used[j] = True
    return used


def tree_points(tree, kind):
    """The number of points of the probe."""
    _check_tree(tree, kind)
    used = _used_rows(tree)
    sizes = []
    for i, row in enumerate(tree):
        # Rows that do not count may stand for far greater trees.
        branches = row if used[i] else ()
        sizes.append(1 + sum([times * sum([sizes[j] for j in sons]) for _, _, sons, times in branches]))
    return sizes[-1]


def _views_of(A):
    """For each table and place the pairs of the point at it and the points at the others."""
    views = {}
    for t, (arity, rows) in enumerate(A[1]):
        for place in range(arity):
            views[(t, place)] = [(row[place], row[:place] + row[place + 1:]) for row in rows]
    return views


def _branch_sums(view, columns, n):
    """For each point the sum, over its facts, of the products of the columns at the others."""
    sums = [0] * n
    for x, others in view:
        number = 1
        for column, y in zip(columns, others):
            number = number * column[y]
        sums[x] = sums[x] + number
    return sums


def _numbers(tree, A, used, modulus):
    """For each used row the numbers `N(x)`; their rests if the modulus is not 0."""
    views = _views_of(A)
    told = {}
    numbers = []
    one = 1 if modulus == 0 else 1 % modulus
    for i, row in enumerate(tree):
        column = [one] * A[0]
        # The numbers of rows that do not count may be far greater than those that do.
        branches = row if used[i] else ()
        for t, place, sons, times in branches:
            if (t, place, sons) not in told:
                told[(t, place, sons)] = _branch_sums(views[(t, place)], [numbers[j] for j in sons], A[0])
            sums = told[(t, place, sons)]
            if modulus == 0:
                column = [a * raised_to(b, times) for a, b in zip(column, sums)]
            else:
                column = [a * rest_of_power(b, times, modulus) % modulus for a, b in zip(column, sums)]
        numbers.append(tuple(column))
    return tuple(numbers)


def tree_rests(tree, A, l):
    """For each row the rests of the numbers `N(x)` modulo `l`."""
    _check_tree_in(tree, A)
    check_modulus(l)
    return _numbers(tree, A, [True] * len(tree), l)


def tree_rest(tree, A, l):
    """The rest of the number of maps modulo `l`."""
    _check_tree_in(tree, A)
    check_modulus(l)
    return sum(_numbers(tree, A, _used_rows(tree), l)[-1]) % l


def tree_number(tree, A):
    """The number of maps of the probe."""
    _check_tree_in(tree, A)
    if tree_points(tree, arities_of(A)) > MOST_COUNTED:
        raise Refused("large")
    return sum(_numbers(tree, A, _used_rows(tree), 0)[-1])


def _reach_views(A):
    """As `_views_of`, put together: for each row of other points the mask of the points beside it."""
    masks = {}
    for key, view in _views_of(A).items():
        found = {}
        for x, others in view:
            found[others] = found.get(others, 0) | 1 << x
        masks[key] = list(found.items())
    return masks


def _branch_reach(view, reaches):
    """The mask of the points with a fact whose other points are in the reaches, in order."""
    mask = 0
    for others, points in view:
        met = points
        for reach, y in zip(reaches, others):
            if reach >> y & 1 == 0:
                met = 0
        mask = mask | met
    return mask


def tree_reaches(tree, A):
    """The reaches of all rows."""
    _check_tree_in(tree, A)
    views = _reach_views(A)
    told = {}
    reaches = []
    for row in tree:
        mask = (1 << A[0]) - 1
        for t, place, sons, _ in row:
            if mask != 0 and (t, place, sons) not in told:
                told[(t, place, sons)] = _branch_reach(views[(t, place)], [reaches[j] for j in sons])
            mask = mask & told.get((t, place, sons), 0)
        reaches.append(mask)
    return tuple([tuple([x for x in range(A[0]) if mask >> x & 1 == 1]) for mask in reaches])


def _grown(tree, i, root, facts):
    """Adds the facts of the tree of the row `i` with this root, and returns the next free number."""
    free = root + 1
    for t, place, sons, times in tree[i]:
        # A fact of the root alone is one fact, however often it is told.
        for _ in range(times if sons else 1):
            others = []
            for j in sons:
                others.append(free)
                free = _grown(tree, j, free, facts)
            facts[t][tuple(others[:place] + [root] + others[place:])] = True
    return free


def tree_unfolded(tree, kind):
    """The probe as a structure, numbered from the root on."""
    _check_tree(tree, kind)
    n = tree_points(tree, kind)
    if n > MOST_POINTS:
        raise Refused("large")
    facts = [{} for _ in kind]
    _grown(tree, len(tree) - 1, 0, facts)
    return n, tuple([(arity, tuple(sorted(told))) for arity, told in zip(kind, facts)])
