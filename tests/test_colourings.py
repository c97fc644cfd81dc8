"""Colourings, orientations, flows: points 15.1 to 15.5."""

import itertools
import random
import unittest

from brute import WRONG, full_graph, graph, hom, plain_structure, ring
from cases import Case
from plain import edge_sets, parts_of, plain_determinant, value_at
from probeweb.colourings import (
    acyclic_number, colour_number, colour_row, flat_list, flow_number, flow_row, forest_number, rooted_number,
    stable_row, tutte_rows, unbroken_row)
from probeweb.structures import beside, first_numbering, is_graph

FIRST = (colour_row, lambda G: colour_number(G, 3), acyclic_number, rooted_number)
OTHERS = (stable_row, unbroken_row, flat_list, flow_row, lambda G: flow_number(G, 3), tutte_rows, forest_number)
NO_GRAPHS = [value for value in WRONG if not is_graph(value)] + [
    (2, ((2, ((0, 1),)),)), (2, ((2, ((0, 0),)),)), (2, ()), (2, ((1, ()),)), (2, ((2, ()), (2, ()))), (2, ((3, ()),)),
    (60, ((2, ((0, 1),)),))]
THREE = full_graph(3)
SQUARE = ring(4)
PETERSEN = graph(10, [(k, (k + 1) % 5) for k in range(5)] + [(5 + k, 5 + (k + 2) % 5) for k in range(5)]
                 + [(k, 5 + k) for k in range(5)])


def graphs(many=120, points=5, most=7):
    for seed in range(many):
        rng = random.Random(seed)
        n = rng.randint(0, points)
        every = [(x, y) for x in range(n) for y in range(x + 1, n)]
        edges = sorted(rng.sample(every, rng.randint(0, min(most, len(every)))))
        yield graph(n, edges), n, edges


def colourings(G, q):
    edges = [row for row in G[1][0][1]]
    return sum(all(f[x] != f[y] for x, y in edges) for f in itertools.product(range(q), repeat=G[0]))


def part_count(n, edges):
    return len(set(parts_of(n, edges)))


class Colours(Case):
    def test_rows(self):
        for G, n, edges in graphs():
            row = colour_row(G)
            self.assertEqual(len(row), n + 1)
            for q in range(5):
                number = colourings(G, q)
                self.assertEqual((value_at(row, q), colour_number(G, q)), (number, number))
                self.assertEqual(number, hom(G, full_graph(q)))
            # Way 5.
            told = [0] * (n + 1)
            for edge_set in edge_sets(G):
                told[part_count(n, edge_set)] += (-1) ** len(edge_set)
            self.assertEqual(row, tuple(told))
            for q in (-1, -7, 10 ** 40, -10 ** 40):
                self.assertEqual(colour_number(G, q), value_at(row, q))

    def test_orientations(self):
        for G, n, edges in graphs():
            free, rooted = 0, 0
            for turns in itertools.product((0, 1), repeat=len(edges)):
                arcs = [(y, x) if turn else (x, y) for (x, y), turn in zip(edges, turns)]
                if not has_round(n, arcs):
                    free += 1
                    rooted += [x for x in range(n) if x not in [y for _, y in arcs]] == [0]
            self.assertEqual(acyclic_number(G), free)
            if n > 0 and part_count(n, edges) == 1:
                self.assertEqual(rooted_number(G), rooted)
            else:
                self.refuses("connected", rooted_number, G)

    def test_five_ways(self):
        for G, n, edges in graphs(60):
            row = colour_row(G)
            stable, unbroken = stable_row(G), unbroken_row(G)
            for q in range(-2, 6):
                falling = [1]
                for k in range(n):
                    falling.append(falling[-1] * (q - k))
                self.assertEqual(sum(a * b for a, b in zip(stable, falling)), value_at(row, q))
                self.assertEqual(sum((-1) ** k * b * q ** (n - k) for k, b in enumerate(unbroken) if k <= n), value_at(row, q))
                self.assertEqual(sum(mu * q ** len(set(parting)) for parting, mu in flat_list(G)), value_at(row, q))

    def test_stable_rows(self):
        for G, n, edges in graphs():
            told = [0] * (n + 1)
            for parting in {first_numbering(c) for c in itertools.product(range(n), repeat=n)}:
                if all(parting[x] != parting[y] for x, y in edges):
                    told[len(set(parting))] += 1
            self.assertEqual(stable_row(G), tuple(told))

    def test_unbroken_rows(self):
        for G, n, edges in graphs():
            broken = []
            for edge_set in edge_sets(G):
                degrees = {x: sum(x in edge for edge in edge_set) for edge in edge_set for x in edge}
                if edge_set and set(degrees.values()) == {2} and part_count(n, edge_set) == n - len(edge_set) + 1:
                    broken.append(set(edge_set) - {max(edge_set)})
            told = [0] * (n + 1)
            for edge_set in edge_sets(G):
                if not any(circuit <= set(edge_set) for circuit in broken):
                    told[len(edge_set)] += 1
            self.assertEqual(unbroken_row(G), tuple(told))

    def test_flats(self):
        for G, n, edges in graphs(70):
            flats = {parts_of(n, edge_set) for edge_set in edge_sets(G)}
            mu = {}
            for parting in sorted(flats, key=lambda told: -len(set(told))):
                finer = [told for told in mu if all(parting[x] == parting[y] for x in range(n) for y in range(n)
                                                    if told[x] == told[y])]
                mu[parting] = 1 if not finer else -sum(mu[told] for told in finer)
            self.assertEqual(flat_list(G), tuple(sorted(mu.items())))

    def test_document(self):
        self.assertEqual((colour_row(THREE), colour_number(THREE, 3), acyclic_number(THREE), rooted_number(THREE)),
                         ((0, 2, -3, 1), 6, 6, 2))
        self.assertEqual((stable_row(SQUARE), unbroken_row(SQUARE), flow_row(SQUARE), forest_number(SQUARE)),
                         ((0, 0, 1, 2, 1), (1, 4, 6, 3, 0), (-1, 1), 4))
        self.assertEqual((tutte_rows(THREE), flat_list(graph(2, [(0, 1)]))),
                         (((0, 1), (1, 0), (1, 0)), (((0, 0), -1), ((0, 1), 1))))


def has_round(n, arcs):
    left = set(range(n))
    while True:
        sources = [x for x in left if not any(y == x and z in left for z, y in arcs)]
        if not sources:
            return bool(left)
        left -= set(sources)


class Flows(Case):
    def test_flows(self):
        for G, n, edges in graphs():
            c, m = part_count(n, edges), len(edges)
            row = flow_row(G)
            self.assertEqual(len(row), m - n + c + 1)
            told = [0] * len(row)
            for edge_set in edge_sets(G):
                told[len(edge_set) - n + part_count(n, edge_set)] += (-1) ** (m - len(edge_set))
            self.assertEqual(row, tuple(told))
            for q in range(1, 6):
                self.assertEqual(flow_number(G, q), value_at(row, q))
                if (q - 1) ** m < 800:
                    number = sum(is_flow(n, edges, f, q) for f in itertools.product(range(1, q), repeat=m))
                    self.assertEqual(flow_number(G, q), number)

    def test_tables(self):
        for G, n, edges in graphs(80):
            c, m = part_count(n, edges), len(edges)
            rows = tutte_rows(G)
            self.assertEqual((len(rows), {len(row) for row in rows}), (n - c + 1, {m - n + c + 1}))
            self.assertTrue(all(t >= 0 for row in rows for t in row))

            def at(x, y):
                return sum(t * x ** i * y ** j for i, row in enumerate(rows) for j, t in enumerate(row))
            for x, y in itertools.product((-1, 0, 2, 3), repeat=2):
                told = sum((x - 1) ** (part_count(n, S) - c) * (y - 1) ** (len(S) - n + part_count(n, S)) for S in edge_sets(G))
                self.assertEqual(at(x, y), told)
            self.assertEqual((at(2, 0), at(1, 1), at(2, 2)), (acyclic_number(G), forest_number(G), 2 ** m))
            for q in (-1, 2, 3):
                self.assertEqual((-1) ** (n - c) * q ** c * at(1 - q, 0), colour_number(G, q))
                self.assertEqual((-1) ** (m - n + c) * at(0, 1 - q), value_at(flow_row(G), q))

    def test_forests(self):
        for G, n, edges in graphs():
            c = part_count(n, edges)
            told = sum(len(S) == n - c and part_count(n, S) == c for S in edge_sets(G))
            self.assertEqual(forest_number(G), told)
            if c == 1 and n > 1:
                degrees = [sum(x in edge for edge in edges) for x in range(n)]
                kirchhoff = [[degrees[x] if x == y else -int((min(x, y), max(x, y)) in edges) for y in range(1, n)]
                             for x in range(1, n)]
                self.assertEqual(forest_number(G), plain_determinant(kirchhoff))
        self.assertEqual(forest_number(full_graph(5)), 125)
        self.assertEqual(forest_number(beside(full_graph(4), THREE)), 48)


def is_flow(n, edges, f, q):
    sums = [0] * n
    for (x, y), v in zip(edges, f):
        sums[x] -= v
        sums[y] += v
    return all(told % q == 0 for told in sums)


class Edges(Case):
    def test_without_points(self):
        G = graph(0, [])
        self.assertEqual((colour_row(G), colour_number(G, 7), acyclic_number(G)), ((1,), 1, 1))
        self.refuses("connected", rooted_number, G)
        self.assertEqual((stable_row(G), unbroken_row(G), flat_list(G), flow_row(G), flow_number(G, 2), tutte_rows(G),
                          forest_number(G)), ((1,), (1,), (((), 1),), (1,), 1, ((1,),), 1))

    def test_without_edges(self):
        one, four = graph(1, []), graph(4, [])
        self.assertEqual((colour_row(one), rooted_number(one), colour_row(four)), ((0, 1), 1, (0, 0, 0, 0, 1)))
        self.refuses("connected", rooted_number, four)
        self.assertEqual((stable_row(four), unbroken_row(four), flat_list(four)),
                         ((0, 1, 7, 6, 1), (1, 0, 0, 0, 0), (((0, 1, 2, 3), 1),)))
        self.assertEqual((flow_row(four), flow_number(four, 1), tutte_rows(four), forest_number(four)), ((1,), 1, ((1,),), 1))
        self.assertEqual(colour_row(graph(12, []))[12], 1)
        self.assertEqual(stable_row(graph(10, []))[5], 42525)

    def test_pieces_and_bridges(self):
        two = beside(THREE, graph(3, [(0, 1)]))
        self.assertEqual(colour_row(two), tuple(colour_of_parts()))
        self.refuses("connected", rooted_number, two)
        self.assertEqual((flow_number(two, 3), flow_row(two), forest_number(two)), (0, (0, 0), 3))

    def test_known_graphs(self):
        self.assertEqual(colour_number(full_graph(7), 7), 5040)
        self.assertEqual(value_at(colour_row(ring(12)), 5), 4 ** 12 + 4)
        even = graph(12, [(x, y) for x in range(12) for y in range(x) if (x - y) % 12 in (1, 11, 2, 10)])
        self.assertEqual(colour_number(even, 3), 6)
        self.assertEqual(acyclic_number(full_graph(6)), 720)
        self.assertEqual(rooted_number(full_graph(6)), 120)
        cubic = graph(8, [(k, (k + 1) % 8) for k in range(8)] + [(k, k + 4) for k in range(4)])
        self.assertEqual(flow_number(cubic, 4), value_at(flow_row(cubic), 4))
        self.assertEqual(forest_number(cubic), 392)

    def test_flow_moduli(self):
        self.assertEqual([flow_number(THREE, q) for q in range(1, 6)], [0, 1, 2, 3, 4])
        dense = graph(6, [(x, y) for x in range(6) for y in range(x)][:14])
        self.assertEqual([flow_number(dense, q) for q in range(1, 6)], [value_at(flow_row(dense), q) for q in range(1, 6)])

    def test_bounds(self):
        for ask in FIRST:
            self.refuses("large", ask, graph(13, []))
            self.refuses("large", ask, graph(12, [(x, y) for x in range(12) for y in range(x)][:25]))
            self.refuses("large", ask, full_graph(8))
        dense = graph(12, [(x, y) for x in range(12) for y in range(x)][-24:])
        self.assertEqual(len(colour_row(dense)), 13)
        self.assertEqual(colour_number(dense, 0), 0)
        for ask in OTHERS:
            self.refuses("large", ask, graph(11, []))
            self.refuses("large", ask, full_graph(6))
            self.refuses("large", ask, PETERSEN)
        most = graph(10, [row for row in PETERSEN[1][0][1] if row[0] < row[1]][:14])
        self.assertEqual(len(flat_list(most)), len({parts_of(10, S) for S in edge_sets(most)}))
        self.assertEqual(stable_row(most)[10], 1)
        self.assertEqual(value_at(colour_row(PETERSEN), 3), 120)

    def test_malformed(self):
        for ask in FIRST + OTHERS:
            for value in NO_GRAPHS:
                self.malformed(ask, value)
        for q in (None, True, False, "3", (3,), [3], (1, 2)):
            self.malformed(colour_number, THREE, q)
            self.malformed(flow_number, THREE, q)
        for q in (0, 6, -1, 10 ** 60, -10 ** 60):
            self.malformed(flow_number, THREE, q)
        self.assertTrue(all(plain_structure(G) for G, _, _ in graphs(3)))


def colour_of_parts():
    """The colour row of a triangle beside two joined points and one more."""
    row = [1]
    for part in ((0, 2, -3, 1), (0, -1, 1), (0, 1)):
        made = [0] * (len(row) + len(part) - 1)
        for i, a in enumerate(row):
            for j, b in enumerate(part):
                made[i + j] += a * b
        row = made
    return row


if __name__ == "__main__":
    unittest.main()
