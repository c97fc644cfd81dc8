"""Layers: points 13.1 to 13.7."""

import itertools
import random
import unittest

import brute
from brute import WRONG, full_graph, graph, hom, plain_maps, plain_structure, ring, variants
from cases import Case
from plain import plain_layers
from probeweb.layers import (
    fronts_of, is_layers, layers_have, layers_join, layers_less, layers_meet, layers_number, layers_of_maps,
    layers_of_rows, layers_reordered, layers_rows, layers_sizes, layers_values, least_row)
from probeweb.maps import map_number

NO_STRUCTURES = [value for value in WRONG if not plain_structure(value)]
SMALL = (2, (0, 1), (((0, 1),), ((-1, 0), (0, -1))))
NO_LAYERS = [value for value in WRONG] + [
    (2, (0, 1), (((0, 1),), ((-1, 0), (-1, 0)))), (2, (0, 1), (((1, 0),), ((0, -1), (-1, 0)))), (2, (0, 0), SMALL[2]),
    (3, (0, 1), SMALL[2]), [2, (0, 1), SMALL[2]], (2, [0, 1], SMALL[2]), (2, (0, 1), list(SMALL[2])), SMALL + (0,),
    (0, (0,), ((),)), (9, (0,), ((),)), (2, (), ()), (True, (0,), (((0,),),))]
TWELVE = tuple(range(12))


def random_sets(many):
    """Numbers, two sets of tuples, and an order."""
    for seed in range(many):
        rng = random.Random(seed)
        n, m = rng.randint(1, 4), rng.randint(1, 3)
        every = list(itertools.product(range(m), repeat=n))
        sets = [rng.sample(every, rng.choice((0, 1, len(every), rng.randint(0, len(every))))) for _ in range(2)]
        order = list(range(n))
        rng.shuffle(order)
        yield rng, n, m, sets[0], sets[1], tuple(order)


class Layers(Case):
    def test_of_rows(self):
        for rng, n, m, rows, _, order in random_sets(800):
            told = plain_layers(n, m, rows, order)
            self.assertEqual(layers_of_rows(n, m, rows, order), told)
            again = tuple(rows + rng.sample(rows, min(2, len(rows))))
            self.assertEqual(layers_of_rows(n, m, again, order), told)
            self.assertIs(is_layers(told), True)

    def test_of_maps(self):
        for seed in range(300):
            rng = random.Random(seed)
            kind = brute.random_kind(rng, (1, 2, 3), 2)
            A = brute.structure(rng, kind, rng.randint(1, 5), 4)
            B = brute.structure(rng, kind, rng.randint(1, 3), 8)
            order = list(range(A[0]))
            rng.shuffle(order)
            told = layers_of_maps(A, B, tuple(order))
            self.assertEqual(told, plain_layers(A[0], B[0], plain_maps(A, B), tuple(order)))
            self.assertEqual(layers_number(told), hom(A, B))

    def test_what_is_told(self):
        for rng, n, m, rows, _, order in random_sets(800):
            d = layers_of_rows(n, m, rows, order)
            self.assertEqual(layers_number(d), len(rows))
            self.assertEqual(layers_rows(d), tuple(sorted(rows)))
            self.assertEqual(least_row(d), min(rows) if rows else None)
            counts = tuple(tuple(sum(row[x] == v for row in rows) for v in range(m)) for x in range(n))
            self.assertEqual(layers_values(d), counts)
            self.assertEqual(layers_sizes(d), tuple(map(len, d[2])))
            for row in itertools.product(range(m), repeat=n):
                self.assertIs(layers_have(d, row), row in rows)
            other = list(range(n))
            rng.shuffle(other)
            self.assertEqual(layers_reordered(d, tuple(other)), plain_layers(n, m, rows, tuple(other)))

    def test_two_sets(self):
        for _, n, m, one, two, order in random_sets(800):
            d, e = layers_of_rows(n, m, one, order), layers_of_rows(n, m, two, order)
            self.assertEqual(layers_meet(d, e), plain_layers(n, m, set(one) & set(two), order))
            self.assertEqual(layers_join(d, e), plain_layers(n, m, set(one) | set(two), order))
            self.assertEqual(layers_less(d, e), plain_layers(n, m, set(one) - set(two), order))

    def test_edges(self):
        one = layers_of_rows(1, 1, [(0,)], (0,))
        self.assertEqual((one, layers_of_rows(1, 1, (), (0,))), ((1, (0,), (((0,),),)), (1, (0,), ((),))))
        empty = layers_of_rows(12, 8, [], TWELVE)
        self.assertEqual(empty, (8, TWELVE, ((),) * 12))
        self.assertEqual((layers_number(empty), layers_rows(empty), least_row(empty), layers_sizes(empty)),
                         (0, (), None, (0,) * 12))
        self.assertEqual(layers_values(empty), ((0,) * 8,) * 12)
        self.assertIs(layers_have(empty, (0,) * 12), False)
        full = (8, TWELVE, (((0,) * 8,),) * 12)
        self.assertEqual(layers_of_maps((12, ()), (8, ()), TWELVE), full)
        self.assertEqual((layers_number(full), least_row(full), layers_have(full, (7,) * 12)), (8 ** 12, (0,) * 12, True))
        self.assertEqual((layers_meet(full, empty), layers_join(full, empty), layers_less(full, empty), layers_less(full, full)),
                         (empty, full, full, empty))
        self.assertEqual(layers_of_maps(full_graph(3), full_graph(2), (2, 0, 1)), (2, (2, 0, 1), ((), (), ())))
        self.assertEqual(layers_of_maps((1, ((2, ((0, 0),)),)), (2, ((2, ((1, 1),)),)), (0,)), (2, (0,), (((-1, 0),),)))
        # The least member by the points, not by the order.
        d = layers_of_rows(2, 2, [(0, 1), (1, 0)], (1, 0))
        self.assertEqual((least_row(d), layers_rows(d)), ((0, 1), ((0, 1), (1, 0))))

    def test_rows_that_are_asked(self):
        for row in WRONG + ((0, 1), (1, 0), [0, 1], (0, 1, 0), (0,), (0, True), (False, 1), (0, 2), (0, -1), (0, 10 ** 60),
                            ((0,), 1), "01"):
            right = isinstance(row, tuple) and row in ((0, 1), (1, 0)) and all(type(v) is int for v in row)
            self.assertIs(layers_have(SMALL, row), right, row)

    def test_document(self):
        self.assertEqual(layers_of_rows(2, 2, [(0, 1), (1, 0)], (0, 1)), SMALL)
        square, triangle = ring(4), full_graph(3)
        d = layers_of_maps(square, triangle, (0, 1, 2, 3))
        self.assertEqual((layers_number(d), layers_sizes(d), layers_values(d)[0],
                          layers_sizes(layers_of_maps(square, triangle, (0, 2, 1, 3)))),
                         (18, (1, 3, 6, 6), (6, 6, 6), (1, 3, 6, 6)))


class Forms(Case):
    def test_all_small_values(self):
        # For one and two points, and one and two values, all values that look like layers.
        told = 0
        for n, m in itertools.product((1, 2), repeat=2):
            every = list(itertools.product(range(m), repeat=n))
            right = set()
            for order in itertools.permutations(range(n)):
                for size in range(len(every) + 1):
                    right |= {plain_layers(n, m, rows, order) for rows in itertools.combinations(every, size)}
            nodes = list(itertools.product((-1, 0, 1, 2), repeat=m))
            layers = [()] + [(node,) for node in nodes] + [(one, two) for one in nodes for two in nodes]
            firsts = layers[:len(nodes) + 2]
            for order in itertools.permutations(range(n)):
                for value in itertools.product(firsts, layers) if n == 2 else itertools.product(layers):
                    told += (m, order, value) in right
                    self.assertIs(is_layers((m, order, value)), (m, order, value) in right)
        self.assertEqual(told, 2 + 4 + 2 * (2 + 16))

    def test_bent(self):
        big = plain_layers(3, 2, [(0, 0, 1), (0, 1, 1), (1, 0, 0), (1, 1, 1)], (2, 0, 1))
        for d in (SMALL, big):
            n, m = len(d[1]), d[0]
            right = set()
            every = list(itertools.product(range(m), repeat=n))
            for size in range(len(every) + 1):
                for rows in itertools.combinations(every, size):
                    for order in itertools.permutations(range(n)):
                        right.add(repr(plain_layers(n, m, rows, order)))
            # By their written forms, as True is equal to 1.
            for other in itertools.chain(variants(d), WRONG):
                self.assertIs(is_layers(other), repr(other) in right, other)

    def test_malformed_layers(self):
        for value in NO_LAYERS:
            self.assertIs(is_layers(value), False, value)
            for ask in (layers_number, layers_rows, least_row, layers_values, layers_sizes):
                self.malformed(ask, value)
            self.malformed(layers_have, value, (0, 1))
            self.malformed(layers_reordered, value, (0, 1))
            for ask in (layers_meet, layers_join, layers_less):
                self.malformed(ask, value, SMALL)
                self.malformed(ask, SMALL, value)
        others = (layers_of_rows(2, 3, [(0, 1)], (0, 1)), layers_of_rows(2, 2, [(0, 1)], (1, 0)),
                  layers_of_rows(3, 2, [(0, 1, 1)], (0, 1, 2)), layers_of_rows(1, 2, [(0,)], (0,)))
        for other in others:
            for ask in (layers_meet, layers_join, layers_less):
                self.malformed(ask, other, SMALL)
                self.malformed(ask, SMALL, other)
        for order in WRONG + ((0,), (0, 0), (0, 2), [0, 1], (0, True), (0, 1, 2), (1, -1)):
            self.malformed(layers_reordered, SMALL, order)

    def test_malformed_arguments(self):
        for n in (0, 13, -1, True, None, "2", (2,), 10 ** 60):
            self.malformed(layers_of_rows, n, 2, [], (0, 1))
        for n in (0, 13):
            self.malformed(layers_of_rows, n, 2, [], tuple(range(n)))
        self.malformed(layers_of_rows, True, 2, [], (0,))
        for m in (0, 9, -1, True, None, "2", (2,), 10 ** 60):
            self.malformed(layers_of_rows, 2, m, [], (0, 1))
        for order in WRONG + ((0,), (0, 0), (0, 2), [0, 1], (0, True), (0, 1, 2)):
            self.malformed(layers_of_rows, 2, 2, [], order)
            self.malformed(layers_of_maps, full_graph(2), full_graph(2), order)
        for rows in (None, 3, "ab", True, {}, ((0,),), ((0, 2),), ([0, 1],), ((0, 1), None), ((0, True),), ((0, -1),),
                     ((0, 1, 0),), [[0, 1]]):
            self.malformed(layers_of_rows, 2, 2, rows, (0, 1))
        self.malformed_pairs(layers_of_maps, NO_STRUCTURES, full_graph(2), (0, 1))
        self.malformed(layers_of_maps, (2, ()), (2, ((1, ()),)), (0, 1))
        for n, m in ((0, 1), (13, 1), (1, 0), (1, 9), (60, 60)):
            self.malformed(layers_of_maps, (n, ()), (m, ()), tuple(range(n)))
        self.assertEqual(layers_number(layers_of_maps((12, ()), (1, ()), TWELVE)), 1)


class Bounds(Case):
    def test_fronts(self):
        self.assertEqual(fronts_of(ring(4), (0, 1, 2, 3)), [[], [0], [0, 1], [0, 2], []])
        # Four points that are joined with others: 7^4 = 2401 is below 3000, 8^4 is not.
        A = graph(8, [(x, x + 4) for x in range(4)])
        for m, number in ((7, 42 ** 4), (2, 16)):
            self.assertEqual(layers_number(layers_of_maps(A, full_graph(m), tuple(range(8)))), number)
        self.refuses("large", layers_of_maps, A, full_graph(8), tuple(range(8)))
        self.assertEqual(layers_number(layers_of_maps(A, full_graph(8), (0, 4, 1, 5, 2, 6, 3, 7))), 56 ** 4)
        B = graph(12, [(x, x + 6) for x in range(6)])
        self.assertEqual(layers_number(layers_of_maps(B, full_graph(3), TWELVE)), 6 ** 6)
        self.refuses("large", layers_of_maps, B, full_graph(4), TWELVE)
        # Point 13.7: no layer has more nodes than states of its front.
        d = layers_of_maps(A, full_graph(3), tuple(range(8)))
        for size, front in zip(layers_sizes(d), fronts_of(A, tuple(range(8)))):
            self.assertLessEqual(size, 3 ** len(front))

    def test_great_layers(self):
        d = layers_of_maps(ring(12), full_graph(8), TWELVE)
        self.assertEqual(layers_number(d), 7 ** 12 + 7)
        self.assertEqual(layers_number(d), map_number(ring(12), full_graph(8)))
        self.assertEqual(layers_values(d)[5], ((7 ** 12 + 7) // 8,) * 8)
        self.assertEqual(least_row(d), (0, 1) * 6)

    def test_many_rows(self):
        rows = list(itertools.islice(itertools.product(range(8), repeat=5), 20000))
        d = layers_of_rows(5, 8, rows, (4, 3, 2, 1, 0))
        self.assertEqual(layers_rows(d), tuple(rows))
        self.assertEqual(layers_reordered(d, (0, 1, 2, 3, 4)), layers_of_rows(5, 8, rows[::-1], (0, 1, 2, 3, 4)))
        # More than 20000, if only by one that is told twice.
        self.refuses("large", layers_of_rows, 5, 8, rows + rows[:1], (0, 1, 2, 3, 4))
        self.malformed(layers_of_rows, 5, 8, rows + [None], (0, 1, 2, 3, 4))
        more = layers_join(d, layers_of_rows(5, 8, [(7,) * 5], (4, 3, 2, 1, 0)))
        self.assertEqual(layers_number(more), 20001)
        self.refuses("many", layers_rows, more)
        self.refuses("many", layers_reordered, more, (0, 1, 2, 3, 4))
        self.malformed(layers_reordered, more, (0, 1, 2, 3))

    def test_many_pairs(self):
        # A layer of 446 nodes and one of 446: 447 * 447 is 199809; with 447 nodes it is beyond 200000.
        def of_size(k):
            """Layers whose fourth one has k nodes: each beginning of three points has a set of its own behind it."""
            sets = list(itertools.combinations(range(64), 2))
            rows = []
            for start, (one, two) in zip(itertools.islice(itertools.product(range(8), repeat=3), k), sets):
                rows += [start + (told // 8, told % 8) for told in (one, two)]
            return layers_of_rows(5, 8, rows, (0, 1, 2, 3, 4))
        d, e = of_size(446), of_size(447)
        self.assertEqual((max(layers_sizes(d)), max(layers_sizes(e))), (446, 447))
        self.assertEqual(layers_meet(d, d), d)
        self.assertEqual(layers_sizes(layers_less(d, d)), (0,) * 5)
        for ask in (layers_meet, layers_join, layers_less):
            self.refuses("large", ask, e, e)
        # 447 * 448 is 200256.
        self.refuses("large", layers_join, d, e)
        self.refuses("large", layers_join, e, d)
        # 400 * 500 is 200000, and 409 * 489 is 200001.
        self.assertEqual(layers_number(layers_less(of_size(499), of_size(399))), 200)
        self.refuses("large", layers_less, of_size(408), of_size(488))
        self.refuses("large", layers_meet, of_size(488), of_size(408))


if __name__ == "__main__":
    unittest.main()
