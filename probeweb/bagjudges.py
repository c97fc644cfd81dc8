"""Judges of papers of cores, widths and numbers of maps (points 16.1 and 16.11 to 16.13)."""

from probeweb.bagpapers import check_bound, number_paper
from probeweb.bags import bag_width, check_width_points, is_bag_tree, is_countable, is_thicket, thicket_order
from probeweb.layers import layers_of_maps
from probeweb.maps import is_map
from probeweb.papers import is_paper_of, is_same
from probeweb.searchjudges import takes_search
from probeweb.structures import check_alike, check_structure, is_point_set, restriction
from probeweb.whole import is_integer


def _has_bar(A, points, k, bar):
    """True if the bar says that the points do not map into themselves without the one at the place `k`."""
    fewer = points[:k] + points[k + 1:]
    return takes_search(restriction(A, points), restriction(A, fewer), bar) and bar[0] != "map"


def takes_core(A, paper):
    """True for the points of a core, a map into them and a bar for each of them, for every paper."""
    check_structure(A)
    check_width_points(A)
    if not is_paper_of(paper, "core", 4):
        return False
    _, points, f, bars = paper
    if not (is_point_set(points, A[0]) and is_map(f, A, restriction(A, points))):
        return False
    if not (isinstance(bars, tuple) and len(bars) == len(points)):
        return False
    return all([_has_bar(A, points, k, bar) for k, bar in enumerate(bars)])


def takes_width(A, paper):
    """True for a width with a bag tree of it and a thicket of the order one above it, for every paper."""
    check_structure(A)
    check_width_points(A)
    if not is_paper_of(paper, "width", 4):
        return False
    _, k, tree, thicket = paper
    if not (is_integer(k) and is_bag_tree(A, tree) and is_thicket(A, thicket)):
        return False
    return bag_width(A, tree) == k and thicket_order(A, thicket) == k + 1


def takes_within(A, k, paper):
    """True for a bag tree of a width of at most `k`, or a thicket against it, for every paper."""
    check_bound(A, k)
    if is_paper_of(paper, "within", 2):
        return is_bag_tree(A, paper[1]) and bag_width(A, paper[1]) <= k
    return is_paper_of(paper, "above", 2) and is_thicket(A, paper[1]) and thicket_order(A, paper[1]) > k + 1


def takes_number(A, B, paper):
    """True for the number of maps with the numbers of the states of all bags, for every paper."""
    check_alike(A, B)
    check_width_points(A)
    if not (is_paper_of(paper, "number", 4) and is_bag_tree(A, paper[2]) and is_countable(B, paper[2])):
        return False
    # For each bag tree there is just one such paper.
    return is_same(paper[1:], number_paper(A, B, paper[2])[1:])


def takes_layers(A, B, order, paper):
    """True for the layers of the maps, for every paper."""
    d = layers_of_maps(A, B, order)
    return is_paper_of(paper, "layers", 2) and is_same(paper[1], d)
