"""Bag trees, orders and thickets (chapter 12)."""

from probeweb.errors import Malformed, Refused
from probeweb.solving import relations_of, value_masks
from probeweb.structures import (
    ascending_choices, check_alike, check_structure, is_pair, is_point, is_point_set, is_point_tuple, joined_points,
    linked_parts, mask_of)
from probeweb.thickets import least_elimination, widest_members
from probeweb.whole import is_integer, raised_to

MOST_WIDTH_POINTS = 12
MOST_STATES = 200000


def _is_first_parent(value):
    return is_integer(value) and value == -1


def _is_bag_pair(value, n):
    """True for bags of points and parents that are earlier bags."""
    if not (is_pair(value) and isinstance(value[0], tuple) and isinstance(value[1], tuple)):
        return False
    bags, parents = value
    if len(bags) == 0 or len(bags) != len(parents):
        return False
    if not all([is_point_set(bag, n) for bag in bags]):
        return False
    return _is_first_parent(parents[0]) and all([is_point(parents[k], k) for k in range(1, len(bags))])


def _top_counts(tree, n):
    """For each point the number of bags with it that have no parent with it."""
    bags, parents = tree
    counts = [0] * n
    for bag, parent in zip(bags, parents):
        for x in bag:
            if parent < 0 or x not in bags[parent]:
                counts[x] += 1
    return counts


def _scopes_of(A):
    """The ascending tuples of the points of the facts, each once."""
    return sorted({tuple(sorted(set(row))) for _, rows in A[1] for row in rows})


def _covers(bags, scopes, n):
    """True if each of the scopes is within a bag."""
    at = [0] * n
    for k, bag in enumerate(bags):
        for x in bag:
            at[x] = at[x] | 1 << k
    for scope in scopes:
        met = at[scope[0]]
        for x in scope[1:]:
            met = met & at[x]
        if met == 0:
            return False
    return True


def _is_bag_tree(A, value):
    if not _is_bag_pair(value, A[0]):
        return False
    return all([count == 1 for count in _top_counts(value, A[0])]) and _covers(value[0], _scopes_of(A), A[0])


def is_bag_tree(A, value):
    """True if the value is a bag tree of `A`, for every value."""
    check_structure(A)
    return _is_bag_tree(A, value)


def _check_bag_tree(A, tree):
    if not _is_bag_tree(A, tree):
        raise Malformed("no bag tree")


def _width_of(tree):
    return max([len(bag) for bag in tree[0]]) - 1


def bag_width(A, tree):
    """The width of a bag tree of `A`."""
    check_structure(A)
    _check_bag_tree(A, tree)
    return _width_of(tree)


def _order_tree(A, order):
    """The tree of an order of the points."""
    if not order:
        return ((),), (-1,)
    near = [{p: True for p in points} for points in joined_points(A)]
    places = {x: k for k, x in enumerate(order)}
    last = len(order) - 1
    bags = []
    parents = []
    for x in order:
        others = sorted(near[x])
        for y in others:
            near[y].update({z: True for z in others if z != y})
            del near[y][x]
        bags.append(tuple(sorted(others + [x])))
        # The bags stand in the tree from the last point to the first one.
        parents.append(last - min([places[y] for y in others], default=last))
    parents[-1] = -1
    return tuple(bags[::-1]), tuple(parents[::-1])


def _check_order(A, order):
    check_structure(A)
    if not is_point_tuple(order, A[0], A[0]) or len(set(order)) != A[0]:
        raise Malformed("no order of the points")


def order_tree(A, order):
    """The tree of an order of the points."""
    _check_order(A, order)
    return _order_tree(A, order)


def order_width(A, order):
    """The width of an order of the points."""
    _check_order(A, order)
    return _width_of(_order_tree(A, order))


def _is_thicket(A, value):
    if not isinstance(value, tuple):
        return False
    if not all([is_point_set(points, A[0]) and len(points) > 0 for points in value]):
        return False
    joined = joined_points(A)
    members = sorted({points for points in value})
    if any([len(linked_parts(points, joined)) > 1 for points in members]):
        return False
    masks = [mask_of(points) for points in members]
    reached = [mask_of({y: True for x in points for y in joined[x] + (x,)}) for points in members]
    return all([all([reach & mask != 0 for mask in masks]) for reach in reached])


def is_thicket(A, value):
    """True if the value is a thicket of `A`, for every value."""
    check_structure(A)
    return _is_thicket(A, value)


def check_width_points(A):
    """Refuses structures with too many points for the search for widths."""
    if A[0] > MOST_WIDTH_POINTS:
        raise Refused("large")


def thicket_order(A, thicket):
    """The least number of points of a set that meets each member of a thicket."""
    check_structure(A)
    if not _is_thicket(A, thicket):
        raise Malformed("no thicket")
    check_width_points(A)
    masks = sorted({mask_of(points) for points in thicket})
    for size in range(A[0]):
        for points in ascending_choices(A[0], size):
            met = mask_of(points)
            if all([mask & met != 0 for mask in masks]):
                return size
    return A[0]


def _near_masks(A):
    return [mask_of(points) for points in joined_points(A)]


def _best_order(A):
    """An order of the least width."""
    check_structure(A)
    check_width_points(A)
    return least_elimination(_near_masks(A))


def least_width(A):
    """The width of `A`."""
    return _width_of(_order_tree(A, _best_order(A)))


def least_tree(A):
    """A bag tree of the width of `A`."""
    return _order_tree(A, _best_order(A))


def widest_thicket(A):
    """A thicket whose order is the width plus 1."""
    width = least_width(A)
    if width < 0:
        return ()
    members = widest_members(_near_masks(A), width)
    return tuple(sorted([tuple([x for x in range(A[0]) if mask >> x & 1 == 1]) for mask in members]))


def _rules_of(relations, bag):
    """For each place of a bag the rules of its value: places before it, and the masks of the values."""
    places = {x: k for k, x in enumerate(bag)}
    rules = [[] for _ in bag]
    for scope, relation in relations.items():
        if all([x in places for x in scope]):
            rules[places[scope[-1]]].append(([places[x] for x in scope[:-1]], value_masks(relation)))
    return rules


def _bag_states(relations, bag, n):
    """The states of a bag, ascending."""
    states = [()]
    for rules in _rules_of(relations, bag):
        longer = []
        for state in states:
            mask = (1 << n) - 1
            for places, masks in rules:
                mask = mask & masks.get(tuple([state[k] for k in places]), 0)
            longer.extend([state + (v,) for v in range(n) if mask >> v & 1 == 1])
        states = longer
    return states


def bag_numbers(A, B, tree):
    """For each bag of a tree a dict from its states with a number above 0 to these numbers, without a check."""
    bags, parents = tree
    relations = relations_of(A, B)
    sums = [[] for _ in bags]
    numbers = [{} for _ in bags]
    for k in reversed(range(len(bags))):
        for state in _bag_states(relations, bags[k], B[0]):
            number = 1
            for places, told in sums[k]:
                number = number * told.get(tuple([state[place] for place in places]), 0)
            if number > 0:
                numbers[k][state] = number
        if k > 0:
            above = bags[parents[k]]
            common = [x for x in bags[k] if x in above]
            told = _summed(numbers[k], [bags[k].index(x) for x in common])
            sums[parents[k]].append(([above.index(x) for x in common], told))
    return numbers


def _summed(numbers, places):
    """The sums of the numbers of the states that have the same points at the places."""
    sums = {}
    for state, number in numbers.items():
        key = tuple([state[place] for place in places])
        sums[key] = sums.get(key, 0) + number
    return sums


def is_countable(B, tree):
    """True for a bag tree along which the maps into `B` can be counted."""
    return raised_to(B[0], _width_of(tree) + 1) <= MOST_STATES


def check_countable(A, B, tree):
    """None for a bag tree of `A` along which the maps into `B` can be counted."""
    check_alike(A, B)
    _check_bag_tree(A, tree)
    if not is_countable(B, tree):
        raise Refused("large")


def number_along(A, B, tree):
    """The number of maps of `A` into `B`, counted along a bag tree."""
    check_countable(A, B, tree)
    return sum(list(bag_numbers(A, B, tree)[0].values()))
