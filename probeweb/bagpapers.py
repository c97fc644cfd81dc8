"""Papers of cores, widths and numbers of maps (points 16.11 to 16.13)."""

from probeweb.bags import bag_numbers, bag_width, check_countable, check_width_points, least_tree, widest_thicket
from probeweb.cuttings import crowded_cutting
from probeweb.errors import Malformed
from probeweb.layers import layers_of_maps
from probeweb.maps import core_points, least_map
from probeweb.refuting import refutation_by_cases
from probeweb.structures import check_structure, restriction
from probeweb.whole import is_integer


def _bar(A, B):
    """A paper that there is no map of `A` into `B`."""
    rows = crowded_cutting(A, B)
    if rows is not None:
        return "cut", rows
    return "refuted", refutation_by_cases(A, B, None)


def core_paper(A):
    """The told core set, a map into it, and what shows that no point of it can be left out."""
    points = core_points(A)
    core = restriction(A, points)
    bars = [_bar(core, restriction(A, points[:k] + points[k + 1:])) for k in range(len(points))]
    return "core", points, least_map(A, core), tuple(bars)


def width_paper(A):
    """The width, a bag tree of this width, and a thicket that shows that there is none of a lesser one."""
    tree = least_tree(A)
    return "width", bag_width(A, tree), tree, widest_thicket(A)


def check_bound(A, k):
    """The errors of questions about a structure and a bound for its width."""
    check_structure(A)
    if not is_integer(k):
        raise Malformed("no bound")
    check_width_points(A)


def within_paper(A, k):
    """A bag tree of a width of at most `k`, or a thicket that shows that there is none."""
    check_bound(A, k)
    tree = least_tree(A)
    return ("within", tree) if bag_width(A, tree) <= k else ("above", widest_thicket(A))


def number_paper(A, B, tree):
    """The number of maps of `A` into `B`, with the numbers of the states of all bags of a bag tree."""
    check_countable(A, B, tree)
    states = [tuple(sorted(numbers.items())) for numbers in bag_numbers(A, B, tree)]
    return "number", sum([number for _, number in states[0]]), tree, tuple(states)


def layers_paper(A, B, order):
    """The layers of the maps of `A` into `B`."""
    return "layers", layers_of_maps(A, B, order)
