"""Turnings, maps up to turnings, foldings and partings (chapter 9)."""

from probeweb.errors import Malformed, Refused
from probeweb.refining import refined_colours
from probeweb.structures import (
    check_alike, check_structure, folded_by, image_rows, is_point_tuple, restriction)
from probeweb.turning import TurningSearch, chain_of, fixed_count, joined_orbits, map_count, powers_of, rounds_of
from probeweb.whole import is_number_from

MOST_TURNED = 16
MOST_TURNINGS = 5040
MOST_FOLDED = 7
MOST_APART = 5
MOST_CLASS_SOURCE = 8
MOST_CLASS_TARGET = 5
MOST_BOTH = 1000
MOST_PARTED = 12


def is_turning(A, B, value):
    """True if the value is a turning of `A` into `B`, for every value."""
    check_alike(A, B)
    if A[0] != B[0] or not is_point_tuple(value, A[0], A[0]) or len(set(value)) != A[0]:
        return False
    for (_, rows), (_, others) in zip(A[1], B[1]):
        if image_rows(rows, value) != others:
            return False
    return True


def _check_turned(A, B):
    if A[0] > MOST_TURNED or B[0] > MOST_TURNED:
        raise Refused("large")


def turned_into(A, B):
    """The least turning of `A` into `B`, or None if there is none."""
    check_alike(A, B)
    _check_turned(A, B)
    search = TurningSearch(A, B)
    return search.least((), search.start) if search.is_open else None


def turning_chain(A):
    """The chain of `A`."""
    check_structure(A)
    _check_turned(A, A)
    return chain_of(A)


def _number_of(chain):
    number = 1
    for link in chain:
        number = number * len(link)
    return number


def turning_number(A):
    """The number of the turnings of `A`."""
    return _number_of(turning_chain(A))


def turning_orbits(A):
    """The ascending tuple of the orbits."""
    chain = turning_chain(A)
    least = joined_orbits(A[0], [m for link in chain for _, m in link])
    orbits = {}
    for x in range(A[0]):
        orbits.setdefault(least[x], []).append(x)
    return tuple([tuple(orbits[x]) for x in sorted(orbits)])


def all_turnings(A):
    """The ascending tuple of all turnings of `A`."""
    chain = turning_chain(A)
    if _number_of(chain) > MOST_TURNINGS:
        raise Refused("many")
    found = [tuple(range(A[0]))]
    for link in reversed(chain):
        found = [tuple([m[x] for x in inner]) for inner in found for _, m in link]
    return tuple(sorted(found))


def all_foldings(n):
    """The ascending tuple of all foldings of `n` points."""
    if not (is_number_from(n, 0) and n <= MOST_FOLDED):
        raise Malformed("no number of points")
    return tuple(_foldings(n))


def _foldings(n):
    found = [((), 0)]
    for _ in range(n):
        found = [(row + (c,), max(many, c + 1)) for row, many in found for c in range(many + 1)]
    return [row for row, _ in found]


def check_folded(A, B):
    """The errors of the search for a folding."""
    check_alike(A, B)
    if A[0] > MOST_APART or B[0] > MOST_APART:
        raise Refused("large")


def folding_apart(A, B):
    """The first folding of `A`, or else of `B`, with unlike numbers of maps into both, or None."""
    check_folded(A, B)
    for C in (A, B):
        for colouring in _foldings(C[0]):
            F = folded_by(C, colouring)
            if map_count(F, A) != map_count(F, B):
                return F
    return None


def _check_classes(A, B):
    check_alike(A, B)
    if A[0] > MOST_CLASS_SOURCE or B[0] > MOST_CLASS_TARGET:
        raise Refused("large")


def _counted(items):
    """How often each item stands among them."""
    counts = {}
    for item in items:
        counts[item] = counts.get(item, 0) + 1
    return counts


def _round_colouring(m):
    """The colouring, in first numbering, whose classes are the rounds of a turning."""
    colours = {x: k for k, line in enumerate(rounds_of(m)) for x in line}
    return tuple([colours[x] for x in range(len(m))])


def class_number_under(A, B):
    """The number of classes of maps of `A` into `B` up to turnings of `A`."""
    _check_classes(A, B)
    turnings = all_turnings(A)
    total = 0
    for colouring, many in _counted([_round_colouring(m) for m in turnings]).items():
        total += many * map_count(folded_by(A, colouring), B)
    return total // len(turnings)


def class_number_over(A, B):
    """The number of classes of maps of `A` into `B` up to turnings of `B`."""
    _check_classes(A, B)
    turnings = all_turnings(B)
    total = 0
    for points, many in _counted([_left_by(m) for m in turnings]).items():
        total += many * map_count(A, restriction(B, points))
    return total // len(turnings)


def _left_by(m):
    """The points that a turning leaves where they are."""
    return tuple([x for x, y in enumerate(m) if x == y])


def class_number_both(A, B):
    """The number of classes of maps of `A` into `B` up to turnings of both."""
    _check_classes(A, B)
    one, two = all_turnings(A), all_turnings(B)
    if len(one) * len(two) > MOST_BOTH:
        raise Refused("many")
    total = 0
    for l in two:
        powers = powers_of(l, A[0])
        total += sum([fixed_count(A, B, m, powers) for m in one])
    return total // (len(one) * len(two))


def _with_fixed(A, points):
    """`A` with one table more for each of the points, that holds it alone."""
    return A[0], A[1] + tuple([(1, ((x,),)) for x in points])


def colours_with(A, B, fixed):
    """The joint colours with a table more for each fixed place, without a check."""
    return refined_colours(_with_fixed(A, fixed[0]), _with_fixed(B, fixed[1]))


class PartingSearch:
    """The rows of a parting of `A` and `B`, and whether they are the same after all."""

    def __init__(self, A, B):
        self.one = A
        self.two = B
        self.rows = []
        self.numbers = {}
        self.told = {}

    def _colours(self, fixed):
        """The joint colours with a table more for each fixed place."""
        if fixed not in self.told:
            self.told[fixed] = colours_with(self.one, self.two, fixed)
        return self.told[fixed]

    def _is_parted(self, fixed):
        one, two = self._colours(fixed)
        return sorted(one) != sorted(two)

    def _row(self, fixed, reason):
        self.numbers[fixed] = len(self.rows)
        self.rows.append((fixed, reason))

    def _left(self, fixed, x):
        """The points of `B` with which colours alone do not part the point `x` of `A`."""
        one, two = self._colours(fixed)
        return [y for y in range(self.two[0]) if two[y] == one[x] and not self._is_parted(_longer(fixed, x, y))]

    def _best_point(self, fixed):
        """The pair of a point of `A` and the points of `B` that are left for it, as few as there can be."""
        colours = self._colours(fixed)[0]
        firsts = [x for x in range(self.one[0]) if colours.count(colours[x]) > 1 and colours.index(colours[x]) == x]
        found = [(x, self._left(fixed, x)) for x in firsts]
        return min(found, key=lambda told: (len(told[1]), told[0]))

    def answers_no(self, fixed):
        """Puts rows that answer the question `fixed` with no; False if its answer is yes."""
        if fixed in self.numbers:
            return True
        if self._is_parted(fixed):
            self._row(fixed, ("colours",))
            return True
        colours = self._colours(fixed)[0]
        if len(set(colours)) == len(colours):
            return False
        x, left = self._best_point(fixed)
        for y in left:
            if not self.answers_no(_longer(fixed, x, y)):
                return False
        js = []
        for y in range(self.two[0]):
            if y not in fixed[1]:
                self.answers_no(_longer(fixed, x, y))
                js.append(self.numbers[_longer(fixed, x, y)])
        self._row(fixed, ("cases", x, tuple(js)))
        return True


def _longer(fixed, x, y):
    return fixed[0] + (x,), fixed[1] + (y,)


def check_parted(A, B):
    """The errors of the search for a parting."""
    check_alike(A, B)
    if A[0] > MOST_PARTED or B[0] > MOST_PARTED:
        raise Refused("large")


def case_parting(A, B):
    """A parting of `A` and `B` that ends with the question whether they are the same, or None if they are."""
    check_parted(A, B)
    search = PartingSearch(A, B)
    return tuple(search.rows) if search.answers_no(((), ())) else None
