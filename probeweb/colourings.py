"""Colour rows, orientations, flows and forests of graphs (chapter 15).

A polynomial is a list of its coefficients, that of the power 0 first.
"""

from math import comb

from probeweb.errors import Malformed, Refused
from probeweb.linear import whole_determinant
from probeweb.structures import first_numbering, is_graph, mask_of, pieces_of
from probeweb.whole import is_integer, is_number_from

MOST_POINTS = 10
MOST_EDGES = 14
MOST_COLOURED_POINTS = 12
MOST_COLOURED_EDGES = 24
MOST_FLOW = 5


def _edges(G):
    return [row for row in G[1][0][1] if row[0] < row[1]]


def _check_graph(G):
    if not is_graph(G):
        raise Malformed("no graph")


def _check_sizes(G, points, edges):
    if G[0] > points or len(_edges(G)) > edges:
        raise Refused("large")


def _check_coloured(G):
    """The first errors of the first four functions."""
    _check_graph(G)
    _check_sizes(G, MOST_COLOURED_POINTS, MOST_COLOURED_EDGES)


def _check_small(G):
    """The first errors of the other functions."""
    _check_graph(G)
    _check_sizes(G, MOST_POINTS, MOST_EDGES)


def _joined_masks(G):
    masks = [0] * G[0]
    for x, y in G[1][0][1]:
        masks[x] = masks[x] | 1 << y
    return tuple(masks)


def _without(near, x):
    """The masks of a graph without the point `x`, the points behind it numbered one less."""
    low = (1 << x) - 1
    return tuple([mask & low | (mask >> x + 1) << x for y, mask in enumerate(near) if y != x])


def _folded(near, x, y):
    """The masks of a graph with the point `x` folded to `y`."""
    made = list(near)
    for z in range(len(near)):
        if near[x] >> z & 1 == 1:
            made[z] = made[z] & ~(1 << x)
            if z != y:
                made[z] = made[z] | 1 << y
                made[y] = made[y] | 1 << z
    return _without(tuple(made), x)


def _taken_apart(near, told):
    """The colour row of a graph that is told by masks, by way 1; `told` keeps what is known.

    The edges of a point with as few as there can be are taken away one by
    one, until it stands alone; each time the graph with this edge folded is
    left to be taken away.
    """
    if not near:
        return [1]
    if near not in told:
        counts = [sum([mask >> z & 1 for z in range(len(near))]) for mask in near]
        x = counts.index(min(counts))
        folds = []
        left = list(near)
        for y in range(len(near)):
            if near[x] >> y & 1 == 1:
                folds.append(_folded(tuple(left), x, y))
                left[x] = left[x] & ~(1 << y)
                left[y] = left[y] & ~(1 << x)
        row = [0] + _taken_apart(_without(tuple(left), x), told)
        for fold in folds:
            # A graph with a point less has a coefficient less.
            row = [a - b for a, b in zip(row, _taken_apart(fold, told) + [0])]
        told[near] = row
    return told[near]


def _value_at(row, q):
    """The value of a polynomial at an integer."""
    value = 0
    for a in reversed(row):
        value = value * q + a
    return value


def colour_row(G):
    """The colour row, by way 1."""
    _check_coloured(G)
    return tuple(_taken_apart(_joined_masks(G), {}))


def colour_number(G, q):
    """The value of the colour row at an integer."""
    if not is_integer(q):
        raise Malformed("no integer")
    return _value_at(colour_row(G), q)


def acyclic_number(G):
    """The number of orientations without a round."""
    return abs(_value_at(colour_row(G), -1))


def rooted_number(G):
    """The number of orientations without a round in which 0 is the only point to which no edge leads."""
    row = colour_row(G)
    if len(pieces_of(G)) != 1:
        raise Refused("connected")
    return abs(row[1])


def stable_row(G):
    """The numbers of partings of the points into 0, 1, .. sets without an edge."""
    _check_small(G)
    near = _joined_masks(G)
    # Point by point: what of the sets is joined with points to come, as masks, each time with how many ways.
    partings = {(): 1}
    for x in range(G[0]):
        asked = mask_of([y for y in range(x + 1) if near[y] >> x + 1 != 0])
        further = {}
        for sets, number in partings.items():
            for longer in _stable_with(sets, x, near):
                key = tuple(sorted([mask & asked for mask in longer]))
                further[key] = further.get(key, 0) + number
        partings = further
    row = [0] * (G[0] + 1)
    for sets, number in partings.items():
        row[len(sets)] += number
    return tuple(row)


def _stable_with(sets, x, near):
    """The partings with one point more, of its own or in a set in which no point is joined with it."""
    found = [sets + (1 << x,)]
    for k, mask in enumerate(sets):
        if mask & near[x] == 0:
            found.append(sets[:k] + (mask | 1 << x,) + sets[k + 1:])
    return found


def _parts_with(parts, x, y):
    """The parts, numbers of the points, with those of two points made one."""
    one, two = parts[x], parts[y]
    return tuple([one if part == two else part for part in parts])


def unbroken_row(G):
    """The numbers of sets of 0, 1, .. edges without a broken circuit."""
    _check_small(G)
    row = [0] * (G[0] + 1)
    for _, size in _unbroken_sets(G):
        row[size] += 1
    return tuple(row)


def _unbroken_sets(G):
    """The parts and the number of edges of each set of edges without a broken circuit."""
    found = [(tuple(range(G[0])), 0)]
    for x, y in _edges(G):
        # Edges before this one that link its ends are a circuit with it, less its greatest edge.
        kept = [(parts, size) for parts, size in found if parts[x] != parts[y]]
        found = kept + [(_parts_with(parts, x, y), size + 1) for parts, size in kept]
    return found


def _edge_sets(G):
    """For each pair of parts of the points and a number of edges how many sets of edges make them."""
    found = {(tuple(range(G[0])), 0): 1}
    for x, y in _edges(G):
        further = {key: number for key, number in found.items()}
        for (parts, size), number in found.items():
            key = (_parts_with(parts, x, y), size + 1)
            further[key] = further.get(key, 0) + number
        found = further
    return found


def flat_list(G):
    """The ascending tuple of all flats and their numbers `mu`."""
    _check_small(G)
    flats = {}
    # The sums, over the sets of edges that make the flats within a flat, are 0 but for the finest one.
    for (parts, size), number in _edge_sets(G).items():
        parting = first_numbering(parts)
        flats[parting] = flats.get(parting, 0) + (number if size & 1 == 0 else -number)
    return tuple(sorted(flats.items()))


def _set_counts(G):
    """For each pair of a number of edges and a number of parts how many sets of edges have them."""
    counts = {}
    for (parts, size), number in _edge_sets(G).items():
        key = (size, len(set(parts)))
        counts[key] = counts.get(key, 0) + number
    return counts


def flow_row(G):
    """The flow row."""
    _check_small(G)
    n, m = G[0], len(_edges(G))
    row = [0] * (m - n + len(pieces_of(G)) + 1)
    for (size, parts), number in _set_counts(G).items():
        row[size - n + parts] += number if (m - size) & 1 == 0 else -number
    return tuple(row)


def flow_number(G, q):
    """The number of flows modulo `q`, counted by giving integers to the edges."""
    if not (is_number_from(q, 1) and q <= MOST_FLOW):
        raise Malformed("no number for flows")
    _check_small(G)
    edges = _edges(G)
    lasts = {}
    for k, (x, y) in enumerate(edges):
        lasts[x] = k
        lasts[y] = k
    sums = {(0,) * G[0]: 1}
    for k, (x, y) in enumerate(edges):
        ended = [p for p in (x, y) if lasts[p] == k]
        sums = _flowed(sums, x, y, ended, q)
    return sum(list(sums.values()))


def _flowed(sums, x, y, ended, q):
    """The sums at all points with one edge more; they are 0 at points without further edges."""
    further = {}
    for told, number in sums.items():
        for a in range(1, q):
            made = list(told)
            made[x] = (made[x] - a) % q
            made[y] = (made[y] + a) % q
            if all([made[p] == 0 for p in ended]):
                key = tuple(made)
                further[key] = further.get(key, 0) + number
    return further


def _power_less_one(e):
    """The polynomial `(x - 1)^e`."""
    return [comb(e, k) if (e - k) & 1 == 0 else -comb(e, k) for k in range(e + 1)]


def tutte_rows(G):
    """The rows of the table of Tutte."""
    _check_small(G)
    n, m, c = G[0], len(_edges(G)), len(pieces_of(G))
    rows = [[0] * (m - n + c + 1) for _ in range(n - c + 1)]
    for (size, parts), number in _set_counts(G).items():
        for i, a in enumerate(_power_less_one(parts - c)):
            for j, b in enumerate(_power_less_one(size - n + parts)):
                rows[i][j] += number * a * b
    return tuple([tuple(row) for row in rows])


def _tree_count(near, piece):
    """The number of trees that link a piece: the determinant of Kirchhoff without its first point."""
    points = piece[1:]
    rows = []
    for x in points:
        degree = sum([near[x] >> y & 1 for y in piece])
        rows.append(tuple([degree if x == y else -(near[x] >> y & 1) for y in points]))
    return whole_determinant(tuple(rows))


def forest_number(G):
    """The number of greatest forests."""
    _check_small(G)
    near = _joined_masks(G)
    number = 1
    for piece in pieces_of(G):
        number = number * _tree_count(near, piece)
    return number
