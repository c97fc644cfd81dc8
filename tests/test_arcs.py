"""Lists: points 3.1, 3.2 and 3.5 to 3.7."""

import itertools
import random
import unittest

import brute
from brute import (
    WRONG, directed_path, full_graph, plain_maps, plain_rounds, plain_structure, plain_supported, plain_tree,
    random_pair, variants)
from cases import Case
from probeweb.arcs import arc_probe, cover_tree, greatest_lists, is_closed_lists, list_round, lists_stand
from probeweb.structures import kind_of
from probeweb.trees import tree_number, tree_points, tree_reaches, tree_rest

NO_STRUCTURES = [value for value in WRONG if not plain_structure(value)]
PAIRS = [random_pair(seed) for seed in range(200)] + [random_pair(seed, rows_a=3, rows_b=3) for seed in range(200)]
LONG, SHORT = directed_path(3), directed_path(2)


def plain_closed(A, B, value):
    if not (isinstance(value, tuple) and len(value) == A[0]):
        return False
    for told in value:
        if not (isinstance(told, tuple) and all(brute.plain_point(b, B[0]) for b in told)):
            return False
        if list(told) != sorted(set(told)):
            return False
    return all(plain_supported(A, B, value, a, b) for a in range(A[0]) for b in value[a])


def less_or_equal(n, strict_last):
    """A chain of `n` points, each at most the next one, the last one less than the first."""
    return (n, ((2, tuple((x, x + 1) for x in range(n - 1))), (2, ((n - 1, 0),) if strict_last else ())))


def order(m):
    """The pairs of the order of `m` points, and those of the strict one."""
    pairs = list(itertools.product(range(m), repeat=2))
    return (m, ((2, tuple(p for p in pairs if p[0] <= p[1])), (2, tuple(p for p in pairs if p[0] < p[1]))))


def rows(many, n, arity=3):
    return tuple(itertools.islice(itertools.product(range(n), repeat=arity), many))


class Lists(Case):
    def test_rounds(self):
        for A, B in PAIRS:
            rounds = plain_rounds(A, B, 8)
            for k in range(9):
                self.assertEqual(list_round(A, B, k), rounds[k])
            last = plain_rounds(A, B, 1 + A[0] * B[0])[-1]
            self.assertEqual(greatest_lists(A, B), last)
            self.assertEqual(list_round(A, B, 800), last)
            self.assertIs(lists_stand(A, B), all(told != () for told in last))

    def test_greatest(self):
        for A, B in PAIRS[:120]:
            last = greatest_lists(A, B)
            self.assertTrue(plain_closed(A, B, last))
            for f in plain_maps(A, B):
                self.assertTrue(all(f[a] in last[a] for a in range(A[0])))

    def test_slow_rounds(self):
        # Around a chain of 60 points the lists get smaller one point at a time.
        A, B = less_or_equal(60, True), order(12)
        self.assertEqual(greatest_lists(A, B), ((),) * 60)
        rounds = [list_round(A, B, k) for k in (0, 1, 2, 3, 100, 300, 360, 361)]
        self.assertEqual(rounds[0], (tuple(range(12)),) * 60)
        self.assertEqual(rounds[1], (tuple(range(1, 12)),) + (tuple(range(12)),) * 58 + (tuple(range(11)),))
        self.assertEqual(rounds[1:4], list(plain_rounds(A, B, 3)[1:]))
        self.assertEqual(len(set(rounds)), len(rounds) - 1)
        probe = arc_probe(A, B)
        self.assertNotEqual(tree_reaches(probe, A)[-1], ())
        self.assertEqual(tree_reaches(probe, B)[-1], ())
        self.assertTrue(lists_stand(less_or_equal(60, False), B))

    def test_places_of_one_point(self):
        # The points of the fact need not be equal: (0, 0) is supported by (0, 1) and (1, 0).
        loop, edge = (1, ((2, ((0, 0),)),)), full_graph(2)
        self.assertEqual(greatest_lists(loop, edge), ((0, 1),))
        self.assertTrue(lists_stand(loop, edge))
        self.assertIsNone(arc_probe(loop, edge))
        self.assertEqual(greatest_lists(loop, SHORT), ((),))
        self.assertEqual(list_round(loop, SHORT, 1), ((),))

    def test_without_points_and_facts(self):
        empty = (0, ((2, ()),))
        self.assertEqual(greatest_lists(empty, SHORT), ())
        self.assertIs(lists_stand(empty, SHORT), True)
        self.assertIs(lists_stand(empty, empty), True)
        self.assertEqual(greatest_lists(SHORT, empty), ((), ()))
        self.assertIs(lists_stand((1, ()), (0, ())), False)
        self.assertEqual(greatest_lists((2, ((2, ()),)), (3, ((2, ()),))), ((0, 1, 2), (0, 1, 2)))
        self.assertIsNone(arc_probe(empty, empty))
        self.assertEqual(arc_probe((1, ()), (0, ())), ((),))
        self.assertIs(is_closed_lists(empty, SHORT, ()), True)

    def test_closed(self):
        for A, B in PAIRS[:60]:
            lists = [told for size in range(B[0] + 1) for told in itertools.combinations(range(B[0]), size)]
            for value in itertools.islice(itertools.product(lists, repeat=A[0]), 300):
                self.assertIs(is_closed_lists(A, B, value), plain_closed(A, B, value))

    def test_closed_for_every_value(self):
        A, B = LONG, directed_path(4)
        value = ((0, 1), (1, 2), (2, 3))
        self.assertIs(is_closed_lists(A, B, value), True)
        for other in itertools.chain(variants(value), WRONG):
            self.assertIs(is_closed_lists(A, B, other), plain_closed(A, B, other), other)
        for other in (((1, 0), (1, 2), (2, 3)), ((0, 0), (1,), (2,)), ((0,), (1,)), [(0,), (1,), (2,)],
                      ([0], (1,), (2,)), ((False,), (1,), (2,)), ((0,), (1,), (4,)), ((-1,), (0,), (1,))):
            self.assertIs(is_closed_lists(A, B, other), False)

    def test_bounds(self):
        self.assertEqual(greatest_lists((60, ()), (12, ())), (tuple(range(12)),) * 60)
        most = (60, ((3, rows(400, 60)),))
        values = (12, ((3, rows(400, 12)),))
        told = greatest_lists(most, values)
        self.assertTrue(is_closed_lists(most, values, told))
        for A, B in (((1, ()), (13, ())), ((60, ((3, rows(401, 60)),)), (1, ((3, ()),))),
                     ((1, ((3, ()),)), (12, ((3, rows(401, 12)),))),
                     ((60, ((1, ()), (2, rows(401, 60, 2)))), (1, ((1, ()), (2, ()))))):
            for ask in (greatest_lists, lists_stand, arc_probe):
                self.refuses("large", ask, A, B)
            self.refuses("large", list_round, A, B, 0)
            self.refuses("large", is_closed_lists, A, B, ())
        # Unlike kinds come first, and so does a value that is no structure.
        for A, B in (((1, ((2, ()),)), (13, ((1, ()),))), ((61, ()), (13, ()))):
            for ask in (greatest_lists, lists_stand, arc_probe):
                self.malformed(ask, A, B)

    def test_malformed(self):
        for ask in (greatest_lists, lists_stand, arc_probe):
            self.malformed_pairs(ask, NO_STRUCTURES, SHORT)
        self.malformed_pairs(list_round, NO_STRUCTURES, SHORT, 1)
        self.malformed_pairs(is_closed_lists, NO_STRUCTURES, SHORT, ())
        for k in (-1, 801, True, None, "1", (1,), 10 ** 60):
            self.malformed(list_round, LONG, SHORT, k)
            self.malformed(list_round, (1, ()), (13, ()), k)
        self.assertEqual(list_round(LONG, SHORT, 0), ((0, 1),) * 3)
        self.assertEqual(list_round(LONG, SHORT, 800), ((),) * 3)


def plain_cover(A, k):
    """Point 3.5."""
    n = A[0]
    tree = [()] * n
    for j in range(1, k + 1):
        for a in range(n):
            row = []
            for t, (_, facts) in enumerate(A[1]):
                for fact in facts:
                    for place, x in enumerate(fact):
                        if x == a:
                            others = fact[:place] + fact[place + 1:]
                            row.append((t, place, tuple((j - 1) * n + y for y in others), 1))
            tree.append(tuple(row))
    return tuple(tree)


class Cover(Case):
    def test_rows(self):
        for A, _ in PAIRS[:80]:
            for k in range(4):
                self.assertEqual(cover_tree(A, k), plain_cover(A, k))
        self.assertEqual(cover_tree(SHORT, 1), ((), (), ((0, 0, (1,), 1),), ((0, 1, (0,), 1),)))

    def test_reaches_are_the_rounds(self):
        for A, B in PAIRS[:120]:
            if A[0] > 0:
                reaches = tree_reaches(cover_tree(A, 5), B)
                own = tree_reaches(cover_tree(A, 5), A)
                for j in range(6):
                    self.assertEqual(reaches[j * A[0]:(j + 1) * A[0]], list_round(A, B, j))
                    self.assertTrue(all(a in own[j * A[0] + a] for a in range(A[0])))

    def test_edges(self):
        self.assertEqual(cover_tree((0, ((2, ()),)), 60), ())
        self.assertEqual(cover_tree((0, ()), 0), ())
        self.assertEqual(cover_tree((2, ()), 60), ((),) * 122)
        self.assertEqual(cover_tree(LONG, 0), ((),) * 3)
        self.assertEqual(len(cover_tree(LONG, 60)), 183)
        self.refuses("large", cover_tree, (60, ((3, rows(401, 60)),)), 1)
        self.assertEqual(len(cover_tree((60, ((3, rows(400, 60)),)), 1)), 120)
        for k in (-1, 61, True, None, "1", (1,), 10 ** 60):
            self.malformed(cover_tree, LONG, k)
            self.malformed(cover_tree, (60, ((3, rows(401, 60)),)), k)
        for value in NO_STRUCTURES:
            self.malformed(cover_tree, value, 1)


class Probe(Case):
    def test_probes(self):
        told = 0
        for A, B in PAIRS:
            probe = arc_probe(A, B)
            self.assertIs(probe is None, lists_stand(A, B))
            if probe is not None:
                told += 1
                self.assertTrue(plain_tree(probe, kind_of(A)))
                self.assertNotEqual(tree_reaches(probe, A)[-1], ())
                self.assertEqual(tree_reaches(probe, B)[-1], ())
                self.assertEqual(plain_maps(A, B), [])
                self.assertEqual(tree_rest(probe, B, 1000003), 0)
                if tree_points(probe, kind_of(A)) <= 400:
                    self.assertGreater(tree_number(probe, A), 0)
                    self.assertEqual(tree_number(probe, B), 0)
        self.assertGreater(told, 50)

    def test_random_great_pairs(self):
        rng = random.Random(4)
        told = 0
        for _ in range(30):
            A = brute.structure(rng, (2, 3, 1), 30, 30)
            B = brute.structure(rng, (2, 3, 1), 6, 16)
            probe = arc_probe(A, B)
            if probe is not None:
                told += 1
                self.assertNotEqual(tree_reaches(probe, A)[-1], ())
                self.assertEqual(tree_reaches(probe, B)[-1], ())
        self.assertGreater(told, 5)

    def test_document(self):
        self.assertEqual((list_round(LONG, SHORT, 1), greatest_lists(LONG, SHORT)), (((0,), (), (1,)), ((), (), ())))
        self.assertEqual((lists_stand(SHORT, LONG), greatest_lists(SHORT, LONG)), (True, ((0, 1), (1, 2))))
        # Point 3.7: standing lists, and no map.
        self.assertIs(lists_stand(full_graph(3), full_graph(2)), True)
        self.assertEqual(plain_maps(full_graph(3), full_graph(2)), [])


if __name__ == "__main__":
    unittest.main()
