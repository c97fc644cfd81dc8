"""Questions about operations as instances of the search for maps (point 10.3)."""

from probeweb.solving import MapSearch
from probeweb.whole import raised_to


def all_rows(n, size):
    """The ascending list of all tuples of so many points."""
    rows = [()]
    for _ in range(size):
        rows = [row + (x,) for row in rows for x in range(n)]
    return rows


def index_of(row, n):
    """The index at which operations of as many arguments have their value at the row."""
    at = 0
    for x in row:
        at = at * n + x
    return at


def power_of(B, k):
    """The power `k` of `B`, for any number of points and rows."""
    n = B[0]
    tables = []
    for arity, rows in B[1]:
        led = {(0,) * arity: True}
        for _ in range(k):
            led = {tuple([at * n + x for at, x in zip(told, row)]): True for told in led for row in rows}
        tables.append((arity, tuple(sorted(led))))
    return raised_to(n, k), tuple(tables)


def _told_value(word, row):
    """The value that the kind of the word tells at a row of arguments, or -1 if it tells none."""
    if word == "semilattice":
        return row[0] if row[0] == row[1] else -1
    x, y, z = row
    if word == "majority":
        return x if x in (y, z) else (y if y == z else -1)
    if word == "maltsev":
        return x if y == z else (z if x == y else -1)
    if x == y:
        return z
    return y if x == z else (x if y == z else -1)


def special_instance(B, k, word):
    """The power `k` of `B`, and `B`, with one table of the arity 1 more for each point.

    It holds, in the power, the rows of arguments at which the kind of the
    word tells this point as the value, and in `B` the point alone.
    """
    n = B[0]
    told = [[] for _ in range(n)]
    for at, row in enumerate(all_rows(n, k)):
        value = _told_value(word, row)
        if value >= 0:
            told[value].append((at,))
    many, tables = power_of(B, k)
    held = tuple([(1, tuple(points)) for points in told])
    return (many, tables + held), (n, B[1] + tuple([(1, ((x,),)) for x in range(n)]))


def with_turned_rows(A, B, n):
    """Both structures with one table more, which makes values at `(x, y)` and `(y, x)` equal."""
    turned = tuple([(x * n + y, y * n + x) for x in range(n) for y in range(x + 1, n)])
    equal = tuple([(v, v) for v in range(n)])
    return (A[0], A[1] + ((2, turned),)), (B[0], B[1] + ((2, equal),))


class SemilatticeSearch(MapSearch):
    """The semilattice operations among the maps of a power of two factors."""

    def settled(self, lists, points):
        """The lists made small by the facts and by `f(x, f(y, z)) = f(f(x, y), z)`."""
        lists = super().settled(lists, points)
        while lists is not None:
            after = self._joined(lists)
            if after is None or after == lists:
                return after
            changed = [x for x in self.points if after[x] != lists[x]]
            lists = super().settled(after, changed)
        return None

    def _joined(self, lists):
        """The lists with those at places made equal that must have one value; None if one becomes empty."""
        n = self.many
        lists = list(lists)
        for x in range(n):
            for y in range(n):
                v = lists[x * n + y]
                if v & (v - 1) != 0:
                    continue
                one = (v.bit_length() - 1) * n
                for z in range(n):
                    u = lists[y * n + z]
                    if u & (u - 1) == 0:
                        two = x * n + u.bit_length() - 1
                        mask = lists[one + z] & lists[two]
                        if mask == 0:
                            return None
                        lists[one + z] = mask
                        lists[two] = mask
        return lists

    def open_pieces(self, lists, points):
        """All points with more than one value as one part, as the equations link them all."""
        left = [x for x in points if lists[x] & (lists[x] - 1) != 0]
        return [left] if left else []

    def can_swap(self, v, w):
        """Never True, as the equations speak of points of both sides."""
        return False
