"""Maps between structures: finding and counting them (chapter 2)."""

from probeweb.counting import listed_maps, unlike_number
from probeweb.errors import Refused
from probeweb.solving import MapSearch, count_along, take_away
from probeweb.structures import ascending_choices, check_alike, check_structure, is_point_tuple, restriction
from probeweb.whole import raised_to

MOST_SEARCHED = 24
MOST_VALUES = 8
MOST_MAPS = 20000
MOST_ITEMS = 200000
MOST_CORE = 8


def is_map(f, A, B):
    """True if `f` is a map of `A` into `B`, for every value of it."""
    check_alike(A, B)
    return maps_into(f, A, B)


def maps_into(f, A, B):
    """As `is_map`, for any number of tables and without a check."""
    if not is_point_tuple(f, B[0], A[0]):
        return False
    for (_, rows), (_, others) in zip(A[1], B[1]):
        facts = {row: True for row in others}
        if not all([tuple([f[x] for x in row]) in facts for row in rows]):
            return False
    return True


def _check_searched(A, B):
    check_alike(A, B)
    if A[0] > MOST_SEARCHED or B[0] > MOST_VALUES:
        raise Refused("large")


def least_map(A, B):
    """The least map of `A` into `B`, or None if there is none."""
    _check_searched(A, B)
    return MapSearch(A, B).least()


def all_maps(A, B):
    """The ascending tuple of all maps of `A` into `B`."""
    _check_searched(A, B)
    return listed_maps(MapSearch(A, B), MOST_MAPS)


def taking_order(A):
    """The pair of the taking-away order and its width."""
    check_structure(A)
    return take_away(A)


def _checked_order(A, B):
    order, width = take_away(A)
    if raised_to(B[0], width + 1) > MOST_ITEMS:
        raise Refused("large")
    return order


def map_number(A, B):
    """The number of the maps of `A` into `B`."""
    check_alike(A, B)
    return count_along(_checked_order(A, B), A, B)


def injection_number(A, B):
    """The number of the maps of `A` into `B` that are one to one."""
    _check_searched(A, B)
    if A[0] > B[0]:
        return 0
    return unlike_number(A, B)


def surjection_number(A, B):
    """The number of the maps of `A` onto `B`, by point 2.3."""
    _check_searched(A, B)
    order = _checked_order(A, B)
    n = B[0]
    if n > A[0]:
        return 0
    total = 0
    for size in range(n + 1):
        sign = 1 if (n - size) & 1 == 0 else -1
        for points in ascending_choices(n, size):
            total += sign * count_along(order, A, restriction(B, points))
    return total


def _check_core(A):
    check_structure(A)
    if A[0] > MOST_CORE:
        raise Refused("large")


def core_points(A):
    """The told core set of `A`."""
    _check_core(A)
    search = MapSearch(A, A)
    for size in range(A[0]):
        for points in ascending_choices(A[0], size):
            if search.is_solvable_within(points):
                return points
    return tuple(range(A[0]))


def is_rigid(A):
    """True if only one map takes `A` into itself."""
    _check_core(A)
    return len(MapSearch(A, A).all_found(2)) == 1
