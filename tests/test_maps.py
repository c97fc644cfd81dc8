"""Maps: points 1.4 and 2.1 to 2.6."""

import itertools
import random
import unittest

import brute
from brute import WRONG, directed_path, full_graph, graph, hom, plain_maps, plain_structure, random_pair, ring
from cases import Case
from probeweb.maps import (
    all_maps, core_points, injection_number, is_map, is_rigid, least_map, map_number, surjection_number, taking_order)
from probeweb.structures import beside, crossed, folded_by, restricted_to

EMPTY = (0, ((2, ()),))
EDGE = graph(2, [(0, 1)])
UNARY = (1, ((1, ()),))
NO_STRUCTURES = [value for value in WRONG if not plain_structure(value)]
PAIRS = [random_pair(seed) for seed in range(250)] + [random_pair(seed, most_a=6, most_b=3) for seed in range(60)]


def dots(n):
    return (n, ((2, ()),))


def full(n):
    """All pairs of `n` points, equal ones too."""
    return (n, ((2, tuple(itertools.product(range(n), repeat=2))),))


def strip(n, width):
    """Points in a row, each joined with the told number of points before it."""
    return graph(n, [(x, y) for x in range(n) for y in range(max(0, x - width), x)])


class Finding(Case):
    def test_is_map(self):
        for A, B in PAIRS[:80]:
            told = plain_maps(A, B)
            for f in itertools.product(range(B[0]), repeat=A[0]):
                self.assertIs(is_map(f, A, B), f in told)
        self.assertIs(is_map((), EMPTY, EMPTY), True)
        self.assertIs(is_map((), EMPTY, EDGE), True)
        self.assertIs(is_map((), EDGE, EMPTY), False)

    def test_is_map_for_every_value(self):
        self.assertIs(is_map((0, 1), EDGE, EDGE), True)
        for f in WRONG + ([0, 1], (0, 1, 0), (0,), (0, 2), (0, -1), (0, True), (False, 1), (0, "1"), (0, None)):
            self.assertIs(is_map(f, EDGE, EDGE), False)

    def test_against_all_functions(self):
        for A, B in PAIRS:
            told = plain_maps(A, B)
            self.assertEqual(all_maps(A, B), tuple(told))
            self.assertEqual(least_map(A, B), told[0] if told else None)

    def test_without_points(self):
        for A, B, told in ((EMPTY, EMPTY, ((),)), (EMPTY, EDGE, ((),)), (EDGE, EMPTY, ()), (dots(1), EMPTY, ())):
            self.assertEqual(all_maps(A, B), told)
            self.assertEqual(least_map(A, B), told[0] if told else None)
            self.assertEqual(map_number(A, B), len(told))

    def test_bounds(self):
        self.assertEqual(least_map(dots(24), full(8)), (0,) * 24)
        self.assertIsNone(least_map(full_graph(24), full_graph(8)))
        self.assertEqual(all_maps(dots(24), dots(1)), ((0,) * 24,))
        self.assertEqual(all_maps(full_graph(24), full_graph(8)), ())
        for search in (least_map, all_maps, injection_number, surjection_number):
            self.refuses("large", search, dots(25), dots(1))
            self.refuses("large", search, dots(1), dots(9))
            self.refuses("large", search, dots(0), dots(9))
            self.malformed(search, (25, ((2, ()),)), (9, ((1, ()),)))
            self.malformed_pairs(search, NO_STRUCTURES, EDGE)

    def test_many(self):
        # Five points with two values each, four with five: 32 * 625 = 20000 maps.
        A = (9, ((1, tuple((x,) for x in range(5))), (1, tuple((x,) for x in range(5, 9)))))
        B = (5, ((1, ((0,), (1,))), (1, tuple((x,) for x in range(5)))))
        found = all_maps(A, B)
        self.assertEqual(len(found), 20000)
        self.assertEqual(list(found), sorted(set(found)))
        self.refuses("many", all_maps, (9, ((1, ()), (1, ()))), (5, ((1, ()), (1, ()))))
        # One point with 3 values, two with 59 pairs and three with 113 triples: 20001 maps.
        rows = [tuple(itertools.islice(itertools.product(range(8), repeat=k), many)) for k, many in ((1, 3), (2, 59), (3, 113))]
        A = (6, ((1, ((0,),)), (2, ((1, 2),)), (3, ((3, 4, 5),))))
        B = (8, tuple(zip((1, 2, 3), rows)))
        self.assertEqual(map_number(A, B), 20001)
        self.refuses("many", all_maps, A, B)
        self.assertEqual(len(all_maps(full_graph(7), full_graph(7))), 5040)
        self.refuses("many", all_maps, beside(full_graph(7), dots(1)), full_graph(7))
        self.refuses("many", all_maps, full_graph(8), full_graph(8))
        self.refuses("many", all_maps, dots(24), dots(2))

    def test_a_piece_without_maps(self):
        # One piece has very many maps, the other one none.
        A = beside(dots(15), full_graph(9))
        self.assertEqual(all_maps(A, full_graph(8)), ())
        self.assertIsNone(least_map(A, full_graph(8)))
        self.assertEqual(all_maps(beside(full_graph(9), dots(15)), full_graph(8)), ())

    def test_hard_searches(self):
        rings = []
        for k in range(4):
            rings += [(5 * k + x, 5 * k + (x + 1) % 5) for x in range(5)]
        between = [(x, y) for x in range(20) for y in range(x) if x // 5 != y // 5]
        joined = graph(20, rings + between)
        self.assertIsNone(least_map(joined, full_graph(8)))
        self.assertIsNone(least_map(ring(23), EDGE))
        self.assertEqual(least_map(ring(24), EDGE), (0, 1) * 12)
        self.assertIsNone(least_map(directed_path(24), directed_path(8)))

    def test_values_that_fail_late(self):
        # Into the first part there is no map, though each fact alone can be kept there.
        B = beside(EDGE, ring(5))
        self.assertEqual(least_map(ring(5), B), (2, 3, 4, 5, 6))
        self.assertEqual(all_maps(ring(5), B), tuple(sorted(plain_maps(ring(5), B))))
        targets = [full_graph(3), full_graph(4), ring(4), ring(5), beside(EDGE, EDGE), beside(EDGE, full_graph(3)),
                   graph(5, [(0, 1), (1, 2), (0, 2), (3, 4), (2, 3)])]
        for seed in range(140):
            rng = random.Random(seed)
            n = rng.randint(4, 6)
            edges = [(x, y) for x in range(n) for y in range(x) if rng.random() < 0.5]
            A, B = graph(n, edges), targets[seed % len(targets)]
            marks = [tuple(sorted({(rng.randrange(m),) for _ in range(2)})) for m in (n, B[0])]
            if seed & 1:
                A, B = (n, A[1] + ((1, marks[0]),)), (B[0], B[1] + ((1, marks[1]),))
            told = plain_maps(A, B)
            self.assertEqual(least_map(A, B), told[0] if told else None)
            self.assertEqual(all_maps(A, B), tuple(told))

    def test_values_that_can_be_exchanged(self):
        # All colours can be exchanged, but not where only some of them are left at the points.
        for edges in ([(2, 0), (2, 1), (3, 0), (4, 2), (4, 3), (5, 1), (5, 2), (5, 4), (6, 0), (6, 1), (6, 3), (6, 5)],
                      [(1, 0), (2, 0), (2, 1), (4, 0), (4, 3), (5, 3), (5, 4), (6, 1), (6, 2), (6, 4), (6, 5)]):
            A, B = graph(7, edges), full_graph(3)
            told = plain_maps(A, B)
            self.assertEqual(least_map(A, B), told[0])
            self.assertEqual(all_maps(A, B), tuple(told))

    def test_composition(self):
        for A, B in PAIRS[:60]:
            C = B
            for f in all_maps(A, B)[:5]:
                for g in all_maps(B, C)[:5]:
                    self.assertTrue(is_map(tuple(g[x] for x in f), A, C))


def plain_order(A):
    """Point 2.2, step by step."""
    near = brute.plain_joined(A)
    order, width = [], 0
    while near:
        x = min(near, key=lambda y: (len(near[y]), y))
        order.append(x)
        width = max(width, len(near[x]))
        for y in near[x]:
            near[y] = (near[y] | near[x]) - {x, y}
        del near[x]
    return tuple(order), width


class Counting(Case):
    def test_taking_order(self):
        self.assertEqual(taking_order(EMPTY), ((), 0))
        self.assertEqual(taking_order(dots(3)), ((0, 1, 2), 0))
        self.assertEqual(taking_order(ring(6)), ((0, 1, 2, 3, 4, 5), 2))
        self.assertEqual(taking_order(full_graph(60)), (tuple(range(60)), 59))
        # The middle of a star is taken away when one other point is left, as it is the lesser one.
        self.assertEqual(taking_order(graph(4, [(0, 1), (0, 2), (0, 3)])), ((1, 2, 0, 3), 1))
        self.assertEqual(taking_order((3, ((3, ((0, 1, 2),)),))), ((0, 1, 2), 2))
        self.assertEqual(taking_order((2, ((2, ((0, 0), (1, 1))),))), ((0, 1), 0))
        for seed in range(150):
            A = random_pair(seed, most_a=9, rows_a=6)[0]
            self.assertEqual(taking_order(A), plain_order(A))
        for value in NO_STRUCTURES:
            self.malformed(taking_order, value)

    def test_fill(self):
        # Points that are joined only by what was taken away before count, too.
        grid = graph(9, [(3 * i + j, 3 * i + j + 1) for i in range(3) for j in range(2)]
                     + [(3 * i + j, 3 * i + 3 + j) for i in range(2) for j in range(3)])
        self.assertEqual(taking_order(grid), plain_order(grid))
        self.assertEqual(taking_order(grid)[1], 3)

    def test_map_number(self):
        for A, B in PAIRS:
            self.assertEqual(map_number(A, B), hom(A, B))
        self.assertEqual(map_number(dots(60), dots(60)), 60 ** 60)
        self.assertEqual(map_number(full_graph(60), full(1)), 1)
        self.assertEqual(map_number(full_graph(60), dots(1)), 0)
        self.assertEqual(map_number(full_graph(60), EMPTY), 0)

    def test_map_number_of_products(self):
        for A, B in PAIRS[:40]:
            self.assertEqual(map_number(A, crossed(B, B)), map_number(A, B) ** 2)
            self.assertEqual(map_number(beside(A, A), B), map_number(A, B) ** 2)

    def test_map_number_of_rings(self):
        for n in range(3, 12):
            for q in range(1, 5):
                told = (q - 1) ** n + (-1) ** n * (q - 1)
                self.assertEqual(map_number(ring(n), full_graph(q)), told)

    def test_map_number_bound(self):
        # 58 ** 3 = 195112, 59 ** 3 = 205379, 447 ** 2 is beyond all structures.
        self.assertEqual(map_number(full_graph(3), full_graph(58)), 58 * 57 * 56)
        self.refuses("large", map_number, full_graph(3), dots(59))
        self.assertEqual(map_number(full_graph(4), full_graph(21)), 21 * 20 * 19 * 18)
        self.refuses("large", map_number, full_graph(4), full_graph(22))
        self.assertEqual(map_number(full_graph(17), full(2)), 2 ** 17)
        self.refuses("large", map_number, full_graph(18), full(2))
        self.refuses("large", map_number, full_graph(18), dots(2))
        self.assertEqual(map_number(strip(40, 2), full(10)), 10 ** 40)
        self.assertEqual(map_number(strip(30, 3), full_graph(6)), 6 * 5 * 4 * 3 ** 27)
        self.malformed(map_number, full_graph(18), (2, ((1, ()),)))
        self.malformed_pairs(map_number, NO_STRUCTURES, EDGE)


class ThePartsOfNumbers(Case):
    def test_against_all_functions(self):
        for A, B in PAIRS:
            told = plain_maps(A, B)
            self.assertEqual(injection_number(A, B), len([f for f in told if len(set(f)) == A[0]]))
            self.assertEqual(surjection_number(A, B), len([f for f in told if len(set(f)) == B[0]]))

    def test_edges(self):
        for count in (injection_number, surjection_number):
            self.assertEqual(count(EMPTY, EMPTY), 1)
            self.assertEqual(count(EDGE, EMPTY), 0)
        self.assertEqual(injection_number(EMPTY, EDGE), 1)
        self.assertEqual(surjection_number(EMPTY, EDGE), 0)
        self.assertEqual(injection_number(dots(8), dots(8)), 40320)
        self.assertEqual(injection_number(full_graph(8), full_graph(8)), 40320)
        self.assertEqual(injection_number(dots(24), dots(8)), 0)
        self.assertEqual(surjection_number(dots(24), dots(2)), 2 ** 24 - 2)
        self.assertEqual(surjection_number(dots(3), dots(8)), 0)
        self.assertEqual(surjection_number(dots(24), dots(8)), sum(
            (-1) ** (8 - s) * len(list(itertools.combinations(range(8), s))) * s ** 24 for s in range(9)))

    def test_surjection_bound(self):
        # 8 ** 5 = 32768 and 8 ** 6 = 262144.
        self.assertEqual(surjection_number(full_graph(5), full_graph(8)), 0)
        self.refuses("large", surjection_number, full_graph(6), full_graph(8))
        self.assertEqual(injection_number(full_graph(6), full_graph(8)), 8 * 7 * 6 * 5 * 4 * 3)

    def test_partitions(self):
        # Point 2.3: the number of all maps by the numbers of those that are one to one.
        for A, B in PAIRS[:40]:
            classes = {folded_coloured(c) for c in itertools.product(range(A[0]), repeat=A[0])}
            self.assertEqual(sum(injection_number(folded_by(A, c), B) for c in classes), map_number(A, B))


def folded_coloured(c):
    least = {}
    for colour in c:
        least.setdefault(colour, len(least))
    return tuple(least[colour] for colour in c)


class Cores(Case):
    def test_against_all_sets(self):
        for seed in range(120):
            A = random_pair(seed, most_a=5)[0]
            maps = plain_maps(A, A)
            images = sorted({(len(set(f)), tuple(sorted(set(f)))) for f in maps})
            # The least set into which `A` maps is the image of a map.
            self.assertEqual(core_points(A), images[0][1])
            self.assertIs(is_rigid(A), maps == [tuple(range(A[0]))])

    def test_edges(self):
        self.assertEqual(core_points(EMPTY), ())
        self.assertEqual(core_points((0, ())), ())
        self.assertIs(is_rigid(EMPTY), True)
        self.assertEqual(core_points(dots(8)), (0,))
        self.assertEqual(core_points(full_graph(8)), tuple(range(8)))
        self.assertEqual(core_points(ring(8)), (0, 1))
        self.assertEqual(core_points(ring(7)), tuple(range(7)))
        self.assertIs(is_rigid(directed_path(8)), True)
        self.assertIs(is_rigid(ring(7)), False)
        self.assertIs(is_rigid(dots(8)), False)
        self.assertIs(is_rigid(UNARY), True)
        for ask in (core_points, is_rigid):
            self.refuses("large", ask, dots(9))
            for value in NO_STRUCTURES:
                self.malformed(ask, value)

    def test_core_of_core(self):
        for seed in range(60):
            A = random_pair(seed, most_a=5)[0]
            core = restricted_to(A, core_points(A))
            self.assertEqual(core_points(core), tuple(range(core[0])))
            self.assertIsNotNone(least_map(A, core))


class Document(Case):
    def test_examples(self):
        pentagon = graph(5, [(0, 1), (1, 2), (2, 3), (3, 4), (4, 0)])
        triangle = graph(3, [(0, 1), (1, 2), (0, 2)])
        self.assertEqual(
            (least_map(pentagon, triangle), least_map(triangle, pentagon), map_number(pentagon, triangle),
             taking_order(pentagon)), ((0, 1, 0, 1, 2), None, 30, ((0, 1, 2, 3, 4), 2)))
        square = graph(4, [(0, 1), (1, 2), (2, 3), (3, 0)])
        self.assertEqual((injection_number(triangle, triangle), core_points(square)), (6, (0, 1)))

    def test_arguments_stay(self):
        rng = random.Random(3)
        A = brute.structure(rng, (2, 3), 4, 5)
        self.assertEqual(all_maps(A, A), all_maps(A, A))


if __name__ == "__main__":
    unittest.main()
