"""Judges of papers of searches (points 16.1 and 16.6 to 16.10)."""

from probeweb.cuttings import ending_plane
from probeweb.global_rows import check_bounds, check_lists, check_place, reach_of
from probeweb.maps import is_map
from probeweb.matrices import (
    check_single, has_path, is_word, path_number, step_masks, told_by_traces, traces_of)
from probeweb.refining import is_ratio_matrix, joins_letters
from probeweb.refutations import refuted_nogood
from probeweb.sameness import colours_with, is_turning
from probeweb.strands import gone_through
from probeweb.structures import (
    arities_of, check_alike, check_both_binary, is_ascending, is_pair, is_point, is_point_set, is_point_tuple,
    is_structure, mask_of)
from probeweb.turning import map_count
from probeweb.whole import is_integer, is_number_from, raised_to

MOST_WALKED = 2000
MOST_COUNTED = 200
MOST_CYCLE = 60
MOST_TRIED = 5000


def takes_search(A, B, paper):
    """True for a map, a refutation or a cutting, for every paper."""
    check_alike(A, B)
    if not is_pair(paper):
        return False
    word, told = paper
    if word == "map":
        return is_map(told, A, B)
    if word == "refuted":
        return refuted_nogood(A, B, told) == ()
    if word != "cut":
        return False
    plane = ending_plane(A, B, told)
    return plane is not None and plane[0] == () and plane[1] > 0


def _is_within_row(value, n, m):
    """True for a pair of a point and an ascending tuple of at least one point of the other structure."""
    return is_pair(value) and is_point(value[0], n) and is_point_set(value[1], m) and value[1] != ()


def _led_sets(A, B, groups):
    """For each set to which a letter leads from one of the groups the mask of the points that it is asked for."""
    source, target = step_masks(A), step_masks(B)
    asked = {}
    for points, mask in groups.items():
        for one, two in zip(source, target):
            image = gone_through(points, two)
            asked[image] = asked.get(image, 0) | gone_through(mask, one)
    return asked


def _are_within(A, B, rows):
    """True for pairs as in point 16.7; `groups` has for each set the mask of the points beside it."""
    if not (isinstance(rows, tuple) and all([_is_within_row(row, A[0], B[0]) for row in rows]) and is_ascending(rows)):
        return False
    groups = {}
    for x, points in rows:
        groups[mask_of(points)] = groups.get(mask_of(points), 0) | 1 << x
    if len(set([x for x, _ in rows])) != A[0]:
        return False
    for image, asked in _led_sets(A, B, groups).items():
        met = groups.get(image, 0)
        if asked & ~met != 0:
            for points, mask in groups.items():
                met = met | mask if points & ~image == 0 else met
        if asked & ~met != 0:
            return False
    return True


def takes_words(A, B, paper):
    """True for pairs that hold all words, or a word that is in `A` and not in `B`, for every paper."""
    check_both_binary(A, B)
    if not is_pair(paper):
        return False
    word, told = paper
    if word == "within":
        return _are_within(A, B, told)
    if word != "word" or not is_word(told, arities_of(A)) or len(told) > MOST_WALKED:
        return False
    return has_path(A, told) and not has_path(B, told)


def takes_paths(A, B, paper):
    """True for a matrix that goes with all letters, or a word with unlike numbers, for every paper."""
    check_both_binary(A, B)
    if not is_pair(paper):
        return False
    word, told = paper
    if word == "matrix":
        return is_ratio_matrix(told, A[0], B[0]) and joins_letters(A, B, told)
    if word != "word" or not is_word(told, arities_of(A)) or len(told) > MOST_COUNTED:
        return False
    return path_number(A, told) != path_number(B, told)


def takes_cycles(A, B, paper):
    """True for the row that both tell, or a cycle with unlike numbers of maps, for every paper."""
    check_single(A)
    check_single(B)
    if not is_pair(paper):
        return False
    word, told = paper
    if word == "cycle":
        if not (is_number_from(told, 1) and told <= MOST_CYCLE):
            return False
        return traces_of(A, told)[-1] != traces_of(B, told)[-1]
    n = max(A[0], B[0])
    if word != "alike" or not (isinstance(told, tuple) and len(told) == n + 1 and all([is_integer(c) for c in told])):
        return False
    return told == told_by_traces(traces_of(A, n)) and told == told_by_traces(traces_of(B, n))


def _is_fixed(value, n, m):
    """True for a pair of tuples of equally many points, unlike ones in each of them."""
    if not (is_pair(value) and isinstance(value[0], tuple) and isinstance(value[1], tuple)):
        return False
    one, two = value
    if len(one) != len(two) or not (is_point_tuple(one, n, len(one)) and is_point_tuple(two, m, len(two))):
        return False
    return len(set(one)) == len(one) and len(set(two)) == len(two)


def _has_cases(A, B, rows, k):
    """True if the row has a right reason "cases"."""
    (one, two), (_, x, js) = rows[k]
    left = [y for y in range(B[0]) if y not in two]
    if not (is_point(x, A[0]) and x not in one and is_point_tuple(js, k, len(left))):
        return False
    return all([rows[j][0] == (one + (x,), two + (y,)) for j, y in zip(js, left)])


def _is_parted_row(A, B, rows, k):
    """True if the row is one of a parting, for every value of it."""
    if not (is_pair(rows[k]) and _is_fixed(rows[k][0], A[0], B[0]) and isinstance(rows[k][1], tuple)):
        return False
    fixed, reason = rows[k]
    if len(reason) == 3 and reason[0] == "cases":
        return _has_cases(A, B, rows, k)
    if len(reason) != 1 or reason[0] != "colours":
        return False
    one, two = colours_with(A, B, fixed)
    return sorted(one) != sorted(two)


def _is_parting(A, B, rows):
    """True for a parting that ends with the question whether both are the same, for every value."""
    if not (isinstance(rows, tuple) and len(rows) > 0):
        return False
    for k in range(len(rows)):
        if not _is_parted_row(A, B, rows, k):
            return False
    return rows[-1][0] == ((), ())


def _tells_apart(A, B, F):
    """True for a structure with unlike numbers of maps into both, small enough to try all functions."""
    if not is_structure(F) or arities_of(F) != arities_of(A):
        return False
    if raised_to(A[0], F[0]) > MOST_TRIED or raised_to(B[0], F[0]) > MOST_TRIED:
        return False
    return map_count(F, A) != map_count(F, B)


def takes_sameness(A, B, paper):
    """True for a turning, a parting, or a structure with unlike numbers of maps, for every paper."""
    check_alike(A, B)
    if not is_pair(paper):
        return False
    word, told = paper
    if word == "turned":
        return is_turning(A, B, told)
    if word == "apart":
        return _is_parting(A, B, told)
    return word == "numbers" and _tells_apart(A, B, told)


def _is_choice_row(lists, value):
    """True for a choice row."""
    if not (isinstance(value, tuple) and len(value) == len(lists)):
        return False
    return all([is_integer(v) and v in row for v, row in zip(value, lists)])


def _is_apart(lists, value):
    """True for a choice row all of whose items are unlike."""
    return _is_choice_row(lists, value) and len(set(value)) == len(value)


def _is_hall_set(lists, value):
    """True for an ascending tuple of places with a reach of fewer values."""
    return is_point_set(value, len(lists)) and len(reach_of(lists, value)) < len(value)


def takes_choice(lists, m, paper):
    """True for a choice row that is apart, or a Hall set, for every paper."""
    check_lists(lists, m)
    if not is_pair(paper):
        return False
    word, told = paper
    if word == "choice":
        return _is_apart(lists, told)
    return word == "hall" and _is_hall_set(lists, told)


def _is_tight(lists, x, v, value):
    """True for an ascending tuple of places that is tight against `(x, v)`."""
    if not is_point_set(value, len(lists)) or x in value:
        return False
    reach = reach_of(lists, value)
    return v in reach and len(reach) == len(value)


def takes_kept(lists, m, x, v, paper):
    """True for a choice row with the value at the place, a tight set against it, or a Hall set, for every paper."""
    check_place(lists, m, x, v)
    if not is_pair(paper):
        return False
    word, told = paper
    if word == "choice":
        return _is_apart(lists, told) and told[x] == v
    if word == "tight":
        return _is_tight(lists, x, v, told)
    return word == "hall" and _is_hall_set(lists, told)


def _is_bounded(lists, bounds, value):
    """True for a choice row within the bounds."""
    if not _is_choice_row(lists, value):
        return False
    return all([least <= value.count(v) <= most for v, (least, most) in enumerate(bounds)])


def takes_bounds(lists, m, bounds, paper):
    """True for a choice row within the bounds, or a barrier, for every paper."""
    check_bounds(lists, m, bounds)
    if not is_pair(paper):
        return False
    word, told = paper
    if word == "choice":
        return _is_bounded(lists, bounds, told)
    if word == "high":
        return is_point_set(told, len(lists)) and sum([bounds[v][1] for v in reach_of(lists, told)]) < len(told)
    if word != "low" or not is_point_set(told, m):
        return False
    places = [row for row in lists if any([v in row for v in told])]
    return sum([bounds[v][0] for v in told]) > len(places)
