"""Global rows: choices out of lists that are all unlike, or within bounds (chapter 14)."""

from probeweb.choosing import BoundedRow, Matching
from probeweb.errors import Malformed, Refused
from probeweb.structures import ascending_choices, is_pair, is_point, is_point_set, is_point_tuple
from probeweb.whole import is_integer, is_number_from

MOST_VALUES = 60
MOST_LISTS = 60
MOST_HALL = 12
MOST_NUMBERED = 14
MOST_UNLIKE = 5
MOST_STRIP = 5


def check_lists(lists, m):
    """None for a row of lists with values below `m`."""
    if not (is_number_from(m, 0) and m <= MOST_VALUES):
        raise Malformed("no number of values")
    if not (isinstance(lists, tuple) and len(lists) <= MOST_LISTS and all([is_point_set(row, m) for row in lists])):
        raise Malformed("no row of lists")


def hall_choice(lists, m):
    """The least choice row that is apart, or None."""
    check_lists(lists, m)
    matching = Matching(lists, m)
    return matching.least_row() if matching.fill() is None else None


def hall_set(lists, m):
    """A Hall set, or None if there is none."""
    check_lists(lists, m)
    return Matching(lists, m).fill()


def least_hall_set(lists, m):
    """The first Hall set by the number of places and then as a tuple, or None."""
    check_lists(lists, m)
    if len(lists) > MOST_HALL:
        raise Refused("large")
    for size in range(1, len(lists) + 1):
        for places in ascending_choices(len(lists), size):
            if len(reach_of(lists, places)) < size:
                return places
    return None


def reach_of(lists, places):
    """The ascending list of the values of the lists at the places."""
    return sorted({v for x in places for v in lists[x]})


def kept_lists(lists, m):
    """The lists without their lost values."""
    check_lists(lists, m)
    matching = Matching(lists, m)
    if matching.fill() is not None:
        return ((),) * len(lists)
    return tuple([tuple([v for v in row if matching.tight_against(x, v) is None]) for x, row in enumerate(lists)])


def check_place(lists, m, x, v):
    """None for a row of lists, a place, and a value of its list."""
    check_lists(lists, m)
    if not (is_point(x, len(lists)) and is_point(v, m) and v in lists[x]):
        raise Malformed("no place or no value of its list")


def tight_set(lists, m, x, v):
    """A tight set against `(x, v)`, or None if the value is kept."""
    check_place(lists, m, x, v)
    matching = Matching(lists, m)
    if matching.fill() is not None:
        raise Refused("hall")
    return matching.tight_against(x, v)


def _is_bound(value):
    """True for a pair of integers from 0 on, the first one not above the second one."""
    return is_pair(value) and is_number_from(value[0], 0) and is_integer(value[1]) and value[0] <= value[1]


def check_bounds(lists, m, bounds):
    """None for a row of lists and bounds for its values."""
    check_lists(lists, m)
    if not (isinstance(bounds, tuple) and len(bounds) == m and all([_is_bound(bound) for bound in bounds])):
        raise Malformed("no bounds")


def bounded_choice(lists, m, bounds):
    """A choice row within the bounds, or None."""
    check_bounds(lists, m, bounds)
    row = BoundedRow(lists, bounds)
    return tuple(row.chosen) if row.barrier is None else None


def bound_barrier(lists, m, bounds):
    """A barrier that shows that there is no choice row within the bounds, or None."""
    check_bounds(lists, m, bounds)
    return BoundedRow(lists, bounds).barrier


def _check_numbered(lists, m):
    check_lists(lists, m)
    if len(lists) > MOST_NUMBERED or m > MOST_NUMBERED:
        raise Refused("large")


def apart_number(lists, m):
    """The number of the choice rows that are apart."""
    _check_numbered(lists, m)
    numbers = {0: 1}
    for row in lists:
        further = {}
        for mask, number in numbers.items():
            for v in row:
                if mask >> v & 1 == 0:
                    further[mask | 1 << v] = further.get(mask | 1 << v, 0) + number
        numbers = further
    return sum(list(numbers.values()))


def rook_row(lists, m):
    """The numbers of ways to choose unlike values for 0, 1, .. of the places."""
    _check_numbered(lists, m)
    numbers = {0: 1}
    for row in lists:
        further = dict(numbers)
        for mask, number in numbers.items():
            for v in row:
                if mask >> v & 1 == 0:
                    further[mask | 1 << v] = further.get(mask | 1 << v, 0) + number
        numbers = further
    rooks = [0] * (len(lists) + 1)
    for mask, number in numbers.items():
        rooks[sum([mask >> v & 1 for v in range(m)])] += number
    return tuple(rooks)


def other_lists(lists, m):
    """The lists of the other values."""
    check_lists(lists, m)
    return tuple([tuple([v for v in range(m) if v not in row]) for row in lists])


def _unlike_lists(lists):
    return sorted({row for row in lists})


def _unlike_pairs(n):
    return tuple([(x, y) for x in range(n) for y in range(n) if x != y])


def row_structures(lists, m):
    """The pair of the structures of a row of lists."""
    check_lists(lists, m)
    unlike = _unlike_lists(lists)
    if len(unlike) > MOST_UNLIKE:
        raise Refused("many")
    places = [(1, tuple([(x,) for x, row in enumerate(lists) if row == told])) for told in unlike]
    values = [(1, tuple([(v,) for v in told])) for told in unlike]
    A = (len(lists), tuple([(2, _unlike_pairs(len(lists)))] + places))
    B = (m, tuple([(2, _unlike_pairs(m))] + values))
    return A, B


def _pair_index(x, y, n):
    """The index of a pair of points, the lesser one first, in the table of all pairs of unlike ones."""
    return x * (n - 1) + y - 1


class HallCutting:
    """The rows of a cutting that a Hall set tells (points 5.9 and 14.7)."""

    def __init__(self, lists, m):
        self.lists = lists
        self.many = m
        self.unlike = _unlike_lists(lists)
        self.rows = []

    def put(self, plane, reason):
        """Puts a row to the others and returns its index."""
        self.rows.append((plane, reason))
        return len(self.rows) - 1

    def _once_plane(self, places, v, factor, bound):
        return tuple([((x, v), -factor) for x in places]), bound

    def value_row(self, places, v):
        """The index of a row that says that the value stands at most at one of two or more places."""
        n = len(self.lists)
        told = -1
        for k in range(1, len(places)):
            y = places[k]
            pairs = []
            for x in places[:k]:
                reason = ("fact", 0, _pair_index(x, y, n), (v, v))
                pairs.append((self.put(self._once_plane((x, y), v, 1, -1), reason), 1))
            if k == 1:
                told = pairs[0][0]
            else:
                terms = ((told, k - 1),) + tuple(pairs)
                added = self.put(self._once_plane(places[:k + 1], v, k, 1 - 2 * k), ("sum", terms))
                told = self.put(self._once_plane(places[:k + 1], v, 1, -1), ("cut", added, k))
        return told

    def place_rows(self, x, reach):
        """The indexes of rows whose sum says that one of the values of the reach stands at the place."""
        t = 1 + self.unlike.index(self.lists[x])
        i = [y for y, row in enumerate(self.lists) if row == self.lists[x]].index(x)
        some = (tuple([((x, v), 1) for v in range(self.many)]), 1)
        found = [self.put(some, ("some", x))]
        for v in range(self.many):
            if v not in reach:
                found.append(self.put(((((x, v), -1),), 0), ("fact", t, i, (v,))))
        return found


def hall_cutting(lists, m):
    """A cutting that refutes the structures of the row, or None if there is a choice row that is apart."""
    check_lists(lists, m)
    if len(_unlike_lists(lists)) > MOST_UNLIKE:
        raise Refused("many")
    places = Matching(lists, m).fill()
    if places is None:
        return None
    reach = reach_of(lists, places)
    cutting = HallCutting(lists, m)
    terms = [cutting.value_row(places, v) for v in reach]
    for x in places:
        terms.extend(cutting.place_rows(x, reach))
    # Each choice of a place and a value of the reach stands once on both sides.
    cutting.put(((), len(places) - len(reach)), ("sum", tuple([(j, 1) for j in sorted(terms)])))
    return tuple(cutting.rows)


def _is_strip_row(value, n):
    return is_point_tuple(value, n, n) and len(set(value)) == n


def is_strip(value, n):
    """True if the value is a latin strip with `n` columns, for every value of both."""
    if not (is_number_from(n, 0) and isinstance(value, tuple) and all([_is_strip_row(row, n) for row in value])):
        return False
    # Without rows a great number of columns would be walked through.
    return value == () or all([len(set([row[k] for row in value])) == len(value) for k in range(n)])


def strip_lists(strip, n):
    """The lists of the integers that are missing in the columns of a strip."""
    if not is_strip(strip, n):
        raise Malformed("no latin strip")
    return tuple([tuple([v for v in range(n) if v not in [row[k] for row in strip]]) for k in range(n)])


def _strips_further(numbers, n):
    """The numbers of strips with one row more, by the sets of the integers in their columns."""
    further = {}
    for columns, number in numbers.items():
        rows = [()]
        for column in columns:
            rows = [row + (v,) for row in rows for v in range(n) if v not in row and column >> v & 1 == 0]
        for row in rows:
            # The order of the columns makes no difference to how many continuations there are.
            key = tuple(sorted([columns[k] | 1 << v for k, v in enumerate(row)]))
            further[key] = further.get(key, 0) + number
    return further


def strip_number(k, n):
    """The number of the latin strips of `k` rows and `n` columns."""
    if not (is_number_from(n, 0) and n <= MOST_STRIP and is_number_from(k, 0) and k <= n):
        raise Malformed("no numbers of rows and columns")
    numbers = {(0,) * n: 1}
    for _ in range(k):
        numbers = _strips_further(numbers, n)
    return sum(list(numbers.values()))
