"""Strategies: points 4.1 to 4.3, 4.7 and 4.8."""

import itertools
import random
import unittest

import brute
from brute import (
    WRONG, directed_path, full_graph, plain_first_sets, plain_maps, plain_next_sets, plain_strand, plain_structure,
    random_pair, ring, sets_as_strategy, variants)
from cases import Case
from probeweb.arcs import lists_stand
from probeweb.pebbles import greatest_strategy, is_strategy, pebble_probe, strategy_round, strategy_stands
from probeweb.strands import strand_number, strand_points, strand_reaches, strand_rest
from probeweb.structures import kind_of

EDGE, TRIANGLE = full_graph(2), full_graph(3)
PAIRS = [random_pair(seed, arities=(1, 2), rows_a=6) for seed in range(150)]
PAIRS += [random_pair(seed, arities=(2,), rows_a=6, rows_b=6, most_b=3) for seed in range(150)]
NO_BINARIES = [value for value in WRONG if not plain_structure(value)] + [(0, ((3, ()),)), (1, ((2, ()), (3, ())))]
ASKED = (greatest_strategy, strategy_stands, pebble_probe)


def plain_rounds(A, B, most):
    rounds = [plain_first_sets(A, B)]
    for _ in range(most):
        rounds.append(plain_next_sets(A, B, rounds[-1]))
    return rounds


def plain_greatest(A, B):
    sets = plain_first_sets(A, B)
    while True:
        after = plain_next_sets(A, B, sets)
        if after == sets:
            return sets
        sets = after


def plain_strategy(A, B, value):
    """Point 4.2."""
    if not (isinstance(value, tuple) and len(value) == A[0]):
        return False
    first = plain_first_sets(A, B)
    sets = {}
    for a, line in enumerate(value):
        if not (isinstance(line, tuple) and len(line) == A[0]):
            return False
        for c, told in enumerate(line):
            if not isinstance(told, tuple):
                return False
            for pair in told:
                if not (isinstance(pair, tuple) and len(pair) == 2 and all(brute.plain_point(b, B[0]) for b in pair)):
                    return False
            if list(told) != sorted(set(told)) or not set(told) <= first[a, c]:
                return False
            sets[a, c] = set(told)
    if any((d, b) not in sets[c, a] for (a, c), told in sets.items() for b, d in told):
        return False
    return plain_next_sets(A, B, sets) == sets


class Strategies(Case):
    def test_rounds(self):
        for A, B in PAIRS:
            rounds = plain_rounds(A, B, 4)
            for k in range(5):
                self.assertEqual(strategy_round(A, B, k), sets_as_strategy(A, rounds[k]))

    def test_greatest(self):
        for A, B in PAIRS:
            sets = plain_greatest(A, B)
            told = greatest_strategy(A, B)
            self.assertEqual(told, sets_as_strategy(A, sets))
            self.assertEqual(strategy_round(A, B, 4000), told)
            self.assertIs(strategy_stands(A, B), all(sets.values()))
            self.assertIs(is_strategy(A, B, told), True)
            if all(sets.values()):
                self.assertIs(lists_stand(A, B), True)
            for f in plain_maps(A, B):
                self.assertTrue(all((f[a], f[c]) in sets[a, c] for a in range(A[0]) for c in range(A[0])))

    def test_maps_are_strategies(self):
        for A, B in PAIRS[:100]:
            points = range(A[0])
            for f in plain_maps(A, B)[:3]:
                value = tuple(tuple(((f[a], f[c]),) for c in points) for a in points)
                self.assertIs(is_strategy(A, B, value), True)

    def test_without_points(self):
        empty = (0, ((2, ()),))
        self.assertEqual(greatest_strategy(empty, EDGE), ())
        self.assertIs(strategy_stands(empty, EDGE), True)
        self.assertIs(strategy_stands(empty, empty), True)
        self.assertIsNone(pebble_probe(empty, empty))
        self.assertEqual(greatest_strategy(EDGE, empty), (((), ()), ((), ())))
        self.assertIs(strategy_stands((1, ()), (0, ())), False)
        self.assertIs(is_strategy(empty, EDGE, ()), True)
        self.assertIs(is_strategy(EDGE, empty, (((), ()), ((), ()))), True)
        self.assertIs(is_strategy(EDGE, empty, ()), False)

    def test_pairs_left_out_and_added(self):
        told = greatest_strategy(EDGE, TRIANGLE)
        for a, c in itertools.product(range(2), repeat=2):
            for b, d in itertools.product(range(3), repeat=2):
                pairs = set(told[a][c]) ^ {(b, d)}
                line = told[a][:c] + (tuple(sorted(pairs)),) + told[a][c + 1:]
                value = told[:a] + (line,) + told[a + 1:]
                self.assertIs(is_strategy(EDGE, TRIANGLE, value), plain_strategy(EDGE, TRIANGLE, value))
        # Both sides together.
        for b, d in itertools.product(range(3), repeat=2):
            one = tuple(sorted(set(told[0][1]) ^ {(b, d)}))
            two = tuple(sorted((y, x) for x, y in one))
            value = ((told[0][0], one), (two, told[1][1]))
            self.assertIs(is_strategy(EDGE, TRIANGLE, value), plain_strategy(EDGE, TRIANGLE, value))

    def test_parts_of_strategies(self):
        rng = random.Random(5)
        seen = set()
        for A, B in PAIRS[:150]:
            told = greatest_strategy(A, B)
            for _ in range(6):
                kept = [b for b in range(B[0]) if rng.random() < 0.7]
                value = tuple(tuple(tuple(p for p in pairs if p[0] in kept and p[1] in kept) for pairs in line)
                              for line in told)
                seen.add(plain_strategy(A, B, value))
                self.assertIs(is_strategy(A, B, value), plain_strategy(A, B, value))
        self.assertEqual(seen, {True, False})

    def test_for_every_value(self):
        value = greatest_strategy(EDGE, EDGE)
        for other in itertools.chain(variants(value), WRONG):
            self.assertIs(is_strategy(EDGE, EDGE, other), plain_strategy(EDGE, EDGE, other), other)

    def test_bounds(self):
        self.assertEqual(len(greatest_strategy((12, ()), (5, ()))), 12)
        self.assertIs(strategy_stands(full_graph(12), full_graph(5)), True)
        for A, B in (((13, ()), (1, ())), ((1, ()), (6, ())), ((0, ()), (6, ())), ((13, ()), (6, ()))):
            for ask in ASKED:
                self.refuses("large", ask, A, B)
            self.refuses("large", strategy_round, A, B, 0)
            self.refuses("large", is_strategy, A, B, ())
        for A, B in (((13, ((2, ()),)), (1, ((1, ()),))), ((13, ((3, ()),)), (6, ((3, ()),)))):
            for ask in ASKED:
                self.malformed(ask, A, B)
            self.malformed(is_strategy, A, B, ())

    def test_malformed(self):
        for ask in ASKED:
            self.malformed_pairs(ask, NO_BINARIES, EDGE)
        self.malformed_pairs(strategy_round, NO_BINARIES, EDGE, 1)
        self.malformed_pairs(is_strategy, NO_BINARIES, EDGE, ())
        for k in (-1, 4001, True, None, "1", (1,), 10 ** 60):
            self.malformed(strategy_round, EDGE, EDGE, k)
            self.malformed(strategy_round, (13, ()), (6, ()), k)
        self.assertEqual(strategy_round(TRIANGLE, EDGE, 4000), greatest_strategy(TRIANGLE, EDGE))
        self.assertEqual(strategy_round(EDGE, EDGE, 0), greatest_strategy(EDGE, EDGE))


class Probes(Case):
    def check(self, A, B):
        probe = pebble_probe(A, B)
        self.assertIs(probe is None, strategy_stands(A, B))
        if probe is None:
            return 0
        kind = kind_of(A)
        self.assertTrue(plain_strand(probe, kind))
        self.assertNotEqual(strand_reaches(probe, A)[-1], ())
        self.assertEqual(strand_reaches(probe, B)[-1], ())
        self.assertEqual(strand_rest(probe, B, 1000003), 0)
        if strand_points(probe, kind) <= 400:
            self.assertGreater(strand_number(probe, A), 0)
            self.assertEqual(strand_number(probe, B), 0)
        return 1

    def test_probes(self):
        self.assertGreater(sum(self.check(A, B) for A, B in PAIRS), 60)

    def test_greater_probes(self):
        self.assertEqual(self.check(ring(11), EDGE), 1)
        self.assertEqual(self.check(directed_path(12), directed_path(5)), 1)
        self.assertEqual(self.check(TRIANGLE, EDGE), 1)
        # Four points into three: the strategy stands, and there is no map.
        self.assertEqual(self.check(full_graph(4), TRIANGLE), 0)
        self.assertEqual(plain_maps(full_graph(4), TRIANGLE), [])
        rng = random.Random(6)
        told = 0
        for _ in range(40):
            A = brute.structure(rng, (2, 1, 2), 12, 10)
            B = brute.structure(rng, (2, 1, 2), 5, 14)
            told += self.check(A, B)
        self.assertGreater(told, 5)

    def test_document(self):
        self.assertEqual((strategy_stands(TRIANGLE, EDGE), strategy_stands(EDGE, TRIANGLE)), (False, True))
        self.assertEqual(greatest_strategy(EDGE, EDGE),
                         ((((0, 0), (1, 1)), ((0, 1), (1, 0))), (((0, 1), (1, 0)), ((0, 0), (1, 1)))))


if __name__ == "__main__":
    unittest.main()
