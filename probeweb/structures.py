"""Structures: points and tables of facts (points 1.2 to 1.9)."""

from probeweb.errors import Malformed, Refused
from probeweb.whole import is_integer, is_number_from

MOST_POINTS = 60
MOST_TABLES = 6
MOST_ARITY = 3
MOST_ROWS = 4000


def is_point(value, n):
    """True for one of the points from 0 to `n - 1`."""
    return is_integer(value) and 0 <= value < n


def is_pair(value):
    """True for a tuple of two items."""
    return isinstance(value, tuple) and len(value) == 2


def is_point_tuple(value, n, size):
    """True for a tuple of as many points as told."""
    return isinstance(value, tuple) and len(value) == size and all([is_point(x, n) for x in value])


def mask_of(points):
    """The integer whose binary digits tell a set of points, unlike ones."""
    return sum([1 << x for x in points])


def ascending_choices(n, size):
    """The list of all ascending tuples of so many unlike points, in order."""
    rows = [()]
    for _ in range(size):
        rows = [row + (x,) for row in rows for x in range(row[-1] + 1 if row else 0, n)]
    return rows


def is_ascending(rows):
    """True if each item is less than the next one."""
    return not [row for row, further in zip(rows, rows[1:]) if row >= further]


def is_point_set(value, n):
    """True for an ascending tuple of unlike points."""
    return isinstance(value, tuple) and all([is_point(x, n) for x in value]) and is_ascending(value)


def is_arity(value):
    """True for 1, 2 and 3."""
    return is_integer(value) and 1 <= value <= MOST_ARITY


def is_kind(value):
    """True for a tuple of the arities of a structure."""
    return isinstance(value, tuple) and len(value) <= MOST_TABLES and all([is_arity(arity) for arity in value])


def _is_table(value, n):
    if not is_pair(value):
        return False
    arity, rows = value
    if not (is_arity(arity) and isinstance(rows, tuple) and len(rows) <= MOST_ROWS):
        return False
    # Each structure that is passed comes through here: calls for each row or point would take most of the time.
    if [row for row in rows if not isinstance(row, tuple) or len(row) != arity]:
        return False
    return not [x for row in rows for x in row if type(x) != int or x < 0 or x >= n] and is_ascending(rows)


def is_structure(value):
    """True for a structure, for every value."""
    if not is_pair(value):
        return False
    n, tables = value
    if not (is_integer(n) and 0 <= n <= MOST_POINTS):
        return False
    if not (isinstance(tables, tuple) and len(tables) <= MOST_TABLES):
        return False
    return all([_is_table(table, n) for table in tables])


def is_binary(value):
    """True for a structure without a table of the arity 3, for every value."""
    return is_structure(value) and all([arity <= 2 for arity, _ in value[1]])


def arities_of(A):
    """The tuple of the arities of the tables, without a check."""
    return tuple([arity for arity, _ in A[1]])


def is_graph(value):
    """True for a graph, for every value."""
    if not is_structure(value) or arities_of(value) != (2,):
        return False
    rows = value[1][0][1]
    facts = {row: True for row in rows}
    return all([x != y and (y, x) in facts for x, y in rows])


def check_structure(A):
    """None if the value is a structure."""
    if not is_structure(A):
        raise Malformed("no structure")


def check_binary(A):
    """None if the value is a binary structure."""
    if not is_binary(A):
        raise Malformed("no binary structure")


def check_kind(kind):
    """None if the value is a kind."""
    if not is_kind(kind):
        raise Malformed("no kind")


def kind_of(A):
    """The tuple of the arities of the tables."""
    check_structure(A)
    return arities_of(A)


def check_alike(A, B):
    """None if both are structures of one kind."""
    if kind_of(A) != kind_of(B):
        raise Malformed("unlike kinds")


def check_both_binary(A, B):
    """None if both are binary structures of one kind."""
    check_alike(A, B)
    if MOST_ARITY in arities_of(A):
        raise Malformed("no binary structures")


def greatest_table(A):
    """The number of rows of the greatest table, 0 without tables."""
    return max([len(rows) for _, rows in A[1]], default=0)


def _checked_size(n, tables):
    """The structure of these ascending rows, if it is not too large."""
    made = (n, tuple(tables))
    if n > MOST_POINTS or greatest_table(made) > MOST_ROWS:
        raise Refused("large")
    return made


def _is_edge(value, n):
    return is_point_tuple(value, n, 2) and value[0] != value[1]


def graph_with(n, edges):
    """The graph with these points and edges."""
    if not (is_integer(n) and 0 <= n <= MOST_POINTS):
        raise Malformed("no number of points")
    if not (isinstance(edges, (list, tuple)) and all([_is_edge(edge, n) for edge in edges])):
        raise Malformed("no edges")
    facts = {}
    for x, y in edges:
        facts[(x, y)] = True
        facts[(y, x)] = True
    return _checked_size(n, [(2, tuple(sorted(facts)))])


def edges_of(G):
    """The ascending tuple of the edges of a graph."""
    if not is_graph(G):
        raise Malformed("no graph")
    return tuple([row for row in G[1][0][1] if row[0] < row[1]])


def facts_at(A, x):
    """The triples of table, place and row of the facts that have the point."""
    check_structure(A)
    if not is_point(x, A[0]):
        raise Malformed("no point")
    found = []
    for t, (arity, rows) in enumerate(A[1]):
        for place in range(arity):
            found.extend([(t, place, row) for row in rows if row[place] == x])
    return tuple(found)


def joined_points(A):
    """For each point the ascending tuple of the points joined with it."""
    check_structure(A)
    return points_joined(A)


def points_joined(A):
    """As `joined_points`, for any number of tables and without a check."""
    points = range(A[0])
    masks = [0] * A[0]
    for _, rows in A[1]:
        for row in rows:
            met = 0
            for x in row:
                met = met | 1 << x
            for x in row:
                masks[x] = masks[x] | met
    return tuple([tuple([y for y in points if y != x and masks[x] >> y & 1 == 1]) for x in points])


def linked_parts(points, joined):
    """The parts of the points that are linked through points of them, as ascending tuples."""
    left = {x: True for x in points}
    parts = []
    for start in points:
        if start not in left:
            continue
        del left[start]
        part = [start]
        at = 0
        while at < len(part):
            fresh = [y for y in joined[part[at]] if y in left]
            for y in fresh:
                del left[y]
            part.extend(fresh)
            at += 1
        parts.append(tuple(sorted(part)))
    return parts


def pieces_of(A):
    """The pieces, ascending tuples of points, ascending."""
    joined = joined_points(A)
    return tuple(linked_parts(list(range(A[0])), joined))


def beside(A, B):
    """The points of `A` and behind them those of `B`, with the facts of both."""
    check_alike(A, B)
    n = A[0]
    tables = []
    for (arity, rows), (_, others) in zip(A[1], B[1]):
        moved = tuple([tuple([x + n for x in row]) for row in others])
        tables.append((arity, rows + moved))
    return _checked_size(n + B[0], tables)


def _check_product(A, B):
    if A[0] * B[0] > MOST_POINTS:
        raise Refused("large")
    for (_, rows), (_, others) in zip(A[1], B[1]):
        if len(rows) * len(others) > MOST_ROWS:
            raise Refused("large")


def crossed(A, B):
    """The structure of the pairs of a point of `A` and one of `B`."""
    check_alike(A, B)
    _check_product(A, B)
    n = B[0]
    tables = []
    for (arity, rows), (_, others) in zip(A[1], B[1]):
        made = [tuple([x * n + y for x, y in zip(row, other)]) for row in rows for other in others]
        tables.append((arity, tuple(sorted(made))))
    return A[0] * n, tuple(tables)


def power_structure(A, k):
    """`A` crossed with itself, `k` factors."""
    check_structure(A)
    if not is_number_from(k, 0):
        raise Malformed("no exponent")
    if k == 0:
        return 1, tuple([(arity, ((0,) * arity,)) for arity, _ in A[1]])
    if A[0] <= 1:
        # Such a structure crossed with itself is itself, however often.
        return A
    made = A
    for _ in range(k - 1):
        made = crossed(made, A)
    return made


def first_numbering(colouring):
    """The colouring with its classes numbered in the order of their least points."""
    if not (isinstance(colouring, tuple) and all([is_number_from(colour, 0) for colour in colouring])):
        raise Malformed("no colouring")
    numbers = {}
    for colour in colouring:
        numbers.setdefault(colour, len(numbers))
    return tuple([numbers[colour] for colour in colouring])


def image_rows(rows, f):
    """The ascending tuple of the rows with the point `f[x]` for each point `x`."""
    return tuple(sorted({tuple([f[x] for x in row]) for row in rows}))


def folded_by(A, colouring):
    """`A` folded by a colouring of its points."""
    check_structure(A)
    numbers = first_numbering(colouring)
    if len(numbers) != A[0]:
        raise Malformed("no colouring of the points")
    many = max(numbers, default=-1) + 1
    return many, tuple([(arity, image_rows(rows, numbers)) for arity, rows in A[1]])


def restriction(A, points):
    """`A` restricted to an ascending tuple of its points, without a check."""
    places = {x: k for k, x in enumerate(points)}
    tables = []
    for arity, rows in A[1]:
        kept = [row for row in rows if all([x in places for x in row])]
        tables.append((arity, image_rows(kept, places)))
    return len(points), tuple(tables)


def restricted_to(A, points):
    """`A` restricted to an ascending tuple of unlike points."""
    check_structure(A)
    if not is_point_set(points, A[0]):
        raise Malformed("no ascending tuple of points")
    return restriction(A, points)


def renumbered(A, f):
    """`A` with the point `f[x]` in the place of each point `x`."""
    check_structure(A)
    if not is_point_tuple(f, A[0], A[0]) or len(set(f)) != A[0]:
        raise Malformed("no renumbering")
    return A[0], tuple([(arity, image_rows(rows, f)) for arity, rows in A[1]])
