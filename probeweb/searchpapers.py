"""Papers of searches: maps, words, turnings and choices, or what shows that there are none (points 16.6 to 16.10)."""

from probeweb.cuttings import cutting_from
from probeweb.global_rows import bound_barrier, bounded_choice, check_place, hall_choice, hall_set, tight_set
from probeweb.maps import least_map
from probeweb.matrices import (
    WithinWalk, check_single, check_spectrum, check_within, path_matrix, told_by_traces, traces_of, word_apart)
from probeweb.refutations import case_refutation
from probeweb.sameness import case_parting, check_folded, check_parted, folding_apart, turned_into


def search_paper(A, B):
    """The least map of `A` into `B`, or a refutation."""
    m = least_map(A, B)
    return ("refuted", case_refutation(A, B)) if m is None else ("map", m)


def cutting_paper(A, B):
    """The least map of `A` into `B`, or a cutting."""
    m = least_map(A, B)
    return ("cut", cutting_from(A, B, case_refutation(A, B))) if m is None else ("map", m)


def _members(mask, n):
    """The points of a mask, ascending."""
    return tuple([v for v in range(n) if mask >> v & 1 == 1])


def words_paper(A, B):
    """The least word that is in `A` and not in `B`, or the pairs that a walk through all words meets."""
    check_within(A, B)
    walk = WithinWalk(A, B)
    end = walk.end()
    if end >= 0:
        return "word", walk.word_to(end)
    rows = [(x, _members(points, B[0])) for points, mask in walk.seen.items() for x in _members(mask, A[0])]
    return "within", tuple(sorted(rows))


def paths_paper(A, B):
    """The path matrix, or the least word with unlike numbers."""
    X = path_matrix(A, B)
    return ("word", word_apart(A, B)) if X is None else ("matrix", X)


def cycles_paper(A, B):
    """The row that the numbers of closed walks tell, or the least cycle with unlike numbers of maps."""
    check_single(A)
    check_single(B)
    check_spectrum(A)
    check_spectrum(B)
    n = max(A[0], B[0])
    one, two = traces_of(A, n), traces_of(B, n)
    if one == two:
        return "alike", told_by_traces(one)
    return "cycle", [k + 1 for k in range(n) if one[k] != two[k]][0]


def sameness_paper(A, B):
    """The least turning of `A` into `B`, or a parting."""
    check_parted(A, B)
    m = turned_into(A, B)
    return ("apart", case_parting(A, B)) if m is None else ("turned", m)


def numbers_paper(A, B):
    """The least turning of `A` into `B`, or a structure with unlike numbers of maps into both."""
    check_folded(A, B)
    m = turned_into(A, B)
    return ("numbers", folding_apart(A, B)) if m is None else ("turned", m)


def choice_paper(lists, m):
    """The least choice row that is apart, or a Hall set."""
    row = hall_choice(lists, m)
    return ("hall", hall_set(lists, m)) if row is None else ("choice", row)


def kept_paper(lists, m, x, v):
    """A choice row that is apart with the value `v` at the place `x`, a tight set against it, or a Hall set."""
    check_place(lists, m, x, v)
    places = hall_set(lists, m)
    if places is not None:
        return "hall", places
    places = tight_set(lists, m, x, v)
    if places is not None:
        return "tight", places
    return "choice", hall_choice(lists[:x] + ((v,),) + lists[x + 1:], m)


def bounds_paper(lists, m, bounds):
    """A choice row within the bounds, or a barrier."""
    row = bounded_choice(lists, m, bounds)
    return bound_barrier(lists, m, bounds) if row is None else ("choice", row)
