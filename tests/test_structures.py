"""Structures: points 1.2 to 1.9."""

import itertools
import random
import unittest

import brute
from brute import WRONG, graph, hom, plain_joined, plain_structure, random_pair, structure, variants
from cases import Case
from probeweb.structures import (
    beside, check_alike, crossed, edges_of, facts_at, first_numbering, folded_by, graph_with, is_binary, is_graph,
    is_structure, joined_points, kind_of, pieces_of, power_structure, renumbered, restricted_to)

EMPTY = (0, ())
EDGE = (2, ((2, ((0, 1), (1, 0))),))
MIXED = (3, ((1, ((0,), (2,))), (2, ((0, 0), (0, 1))), (3, ((0, 1, 1), (2, 1, 0)))))
NO_STRUCTURES = [value for value in WRONG if not plain_structure(value)]


def rows_up_to(many, n=60, arity=3):
    return tuple(itertools.islice(itertools.product(range(n), repeat=arity), many))


class Forms(Case):
    def test_structures(self):
        for value in (EMPTY, EDGE, MIXED, (60, ()), (0, ((1, ()), (2, ()), (3, ()))), (60, ((1, ()),) * 6),
                      (60, ((3, rows_up_to(4000)),)), (1, ((3, ((0, 0, 0),)),)), (60, ((1, ((59,),)),))):
            self.assertIs(is_structure(value), True)

    def test_no_structures(self):
        for value in ((61, ()), (-1, ()), (True, ()), (60, ((1, ()),) * 7), (60, ((3, rows_up_to(4001)),)),
                      (2, ((0, ()),)), (2, ((4, ()),)), (2, ((True, ()),)), (2, ((1, ((2,),)),)), (2, ((1, ((-1,),)),)),
                      (2, ((2, ((1, 0), (0, 1))),)), (2, ((2, ((0, 1), (0, 1))),)), (2, ((2, ((0,),)),)),
                      (2, ((2, ((0, 1, 1),)),)), (2, ((2, ([0, 1],)),)), (2, ((2, [(0, 1)]),)), (2, [(2, ((0, 1),))]),
                      [2, ()], (2, ([2, ((0, 1),)],)), (2, ((1, ((True,),)),)), (2, ((1, ((False,),)),)), (2, (), ()),
                      (2,), (2, ((2, ((0, 1),), ()),)), (2, ((2,),)), (2, ((1, (("0",),)),)), (2, ((1, ((None,),)),)),
                      (2, ((1, (0,)),)), (0, ((1, ((0,),)),))):
            self.assertIs(is_structure(value), False)
        for value in NO_STRUCTURES:
            self.assertIs(is_structure(value), False)

    def test_variants(self):
        for value in (EMPTY, EDGE, MIXED):
            for other in variants(value):
                self.assertIs(is_structure(other), plain_structure(other), other)

    def test_binary(self):
        self.assertIs(is_binary(EDGE), True)
        self.assertIs(is_binary(EMPTY), True)
        self.assertIs(is_binary((1, ((1, ()), (2, ())))), True)
        self.assertIs(is_binary(MIXED), False)
        self.assertIs(is_binary((0, ((3, ()),))), False)
        for value in NO_STRUCTURES:
            self.assertIs(is_binary(value), False)

    def test_graph(self):
        for value in (EDGE, (0, ((2, ()),)), (60, ((2, ()),)), graph(4, [(0, 1), (1, 2)])):
            self.assertIs(is_graph(value), True)
        for value in (EMPTY, (2, ((2, ((0, 1),)),)), (1, ((2, ((0, 0),)),)), (2, ((1, ()),)), (2, ((2, ()), (2, ()))),
                      (2, ((2, ((0, 0), (0, 1), (1, 0))),)), (2, ((3, ()),)), *NO_STRUCTURES):
            self.assertIs(is_graph(value), False)

    def test_kind(self):
        self.assertEqual(kind_of(EMPTY), ())
        self.assertEqual(kind_of(MIXED), (1, 2, 3))
        for value in NO_STRUCTURES:
            self.malformed(kind_of, value)

    def test_alike(self):
        self.assertIsNone(check_alike(EDGE, (0, ((2, ()),))))
        self.malformed(check_alike, EDGE, EMPTY)
        self.malformed(check_alike, (0, ((1, ()), (2, ()))), (0, ((2, ()), (1, ()))))
        for value in NO_STRUCTURES:
            self.malformed(check_alike, EDGE, value)
            self.malformed(check_alike, value, EDGE)
            self.malformed(check_alike, value, value)


class Graphs(Case):
    def test_graph_with(self):
        told = (3, ((2, ((0, 1), (1, 0), (1, 2), (2, 1))),))
        for edges in ([(0, 1), (2, 1)], ((2, 1), (0, 1)), [(1, 0), (0, 1), (1, 2), (2, 1), (0, 1)]):
            self.assertEqual(graph_with(3, edges), told)
        self.assertEqual(graph_with(0, []), (0, ((2, ()),)))
        self.assertEqual(graph_with(60, ()), (60, ((2, ()),)))

    def test_keeps_its_argument(self):
        edges = [(1, 0), (2, 1), (1, 0)]
        graph_with(3, edges)
        self.assertEqual(edges, [(1, 0), (2, 1), (1, 0)])

    def test_greatest(self):
        # All edges of 60 points, told often: 3540 facts, so no graph is too large.
        edges = [(x, y) for x in range(60) for y in range(60) if x != y] * 2
        made = graph_with(60, edges)
        self.assertEqual(len(made[1][0][1]), 3540)
        self.assertTrue(is_graph(made))

    def test_malformed(self):
        for n in (61, -1, True, None, "3", (), 10 ** 60):
            self.malformed(graph_with, n, [])
        for edges in ([(0, 0)], [(0, 3)], [(-1, 0)], [[0, 1]], [(0, 1, 2)], [(0,)], [(True, 0)], [None], ["01"], "01",
                      {(0, 1): 1}, None, 5, [(0, 1), (1, 1)], ([0, 1],), [((0,), 1)]):
            self.malformed(graph_with, 3, edges)
        for value in WRONG:
            if not isinstance(value, (list, tuple)) or len(value) > 0:
                self.malformed(graph_with, 1, value)

    def test_edges_of(self):
        self.assertEqual(edges_of(graph(4, [(3, 0), (1, 2), (2, 3)])), ((0, 3), (1, 2), (2, 3)))
        self.assertEqual(edges_of((5, ((2, ()),))), ())
        for value in (EMPTY, MIXED, (2, ((2, ((0, 1),)),)), (1, ((2, ((0, 0),)),)), *NO_STRUCTURES):
            self.malformed(edges_of, value)


class Parts(Case):
    def test_facts_at(self):
        self.assertEqual(facts_at(MIXED, 0), (
            (0, 0, (0,)), (1, 0, (0, 0)), (1, 0, (0, 1)), (1, 1, (0, 0)), (2, 0, (0, 1, 1)), (2, 2, (2, 1, 0))))
        self.assertEqual(facts_at(MIXED, 1), (
            (1, 1, (0, 1)), (2, 1, (0, 1, 1)), (2, 1, (2, 1, 0)), (2, 2, (0, 1, 1))))
        for seed in range(60):
            A = random_pair(seed)[0]
            for x in range(A[0]):
                told = sorted((t, k, row) for t, (_, rows) in enumerate(A[1]) for row in rows
                              for k in range(len(row)) if row[k] == x)
                self.assertEqual(facts_at(A, x), tuple(told))

    def test_facts_at_malformed(self):
        for x in (3, -1, True, None, "0", (0,), 10 ** 60):
            self.malformed(facts_at, MIXED, x)
        self.malformed(facts_at, EMPTY, 0)
        for value in NO_STRUCTURES:
            self.malformed(facts_at, value, 0)

    def test_joined_points(self):
        self.assertEqual(joined_points(EMPTY), ())
        self.assertEqual(joined_points((2, ((2, ((0, 0),)),))), ((), ()))
        self.assertEqual(joined_points(MIXED), ((1, 2), (0, 2), (0, 1)))
        for seed in range(60):
            A = random_pair(seed, most_a=7)[0]
            near = plain_joined(A)
            self.assertEqual(joined_points(A), tuple(tuple(sorted(near[x])) for x in range(A[0])))

    def test_pieces(self):
        self.assertEqual(pieces_of(EMPTY), ())
        self.assertEqual(pieces_of((3, ((2, ((0, 2),)),))), ((0, 2), (1,)))
        self.assertEqual(pieces_of(graph(6, [(5, 0), (3, 1), (0, 3)])), ((0, 1, 3, 5), (2,), (4,)))
        for seed in range(60):
            A = random_pair(seed, most_a=8, rows_a=2)[0]
            near = plain_joined(A)
            part = {x: {x} for x in near}
            for x in near:
                for y in near[x]:
                    union = part[x] | part[y]
                    for z in union:
                        part[z] = union
            self.assertEqual(pieces_of(A), tuple(sorted({tuple(sorted(told)) for told in part.values()})))

    def test_malformed(self):
        for value in NO_STRUCTURES:
            self.malformed(joined_points, value)
            self.malformed(pieces_of, value)


class Products(Case):
    def test_beside(self):
        self.assertEqual(beside(MIXED, MIXED), (6, (
            (1, ((0,), (2,), (3,), (5,))), (2, ((0, 0), (0, 1), (3, 3), (3, 4))),
            (3, ((0, 1, 1), (2, 1, 0), (3, 4, 4), (5, 4, 3))))))
        self.assertEqual(beside((0, ((2, ()),)), EDGE), EDGE)
        self.assertEqual(beside(EDGE, (0, ((2, ()),))), EDGE)

    def test_beside_counts(self):
        for seed in range(60):
            A, B = random_pair(seed, most_a=2, most_b=2)
            C = structure(random.Random(seed), kind_of(A), 2, 5)
            self.assertEqual(hom(beside(A, B), C), hom(A, C) * hom(B, C))

    def test_crossed_counts(self):
        for seed in range(60):
            A, B = random_pair(seed, most_a=2, most_b=2)
            C = structure(random.Random(seed), kind_of(A), 2, 5)
            self.assertTrue(plain_structure(crossed(A, B)))
            self.assertEqual(hom(C, crossed(A, B)), hom(C, A) * hom(C, B))

    def test_crossed_points(self):
        one, two = (2, ((2, ((0, 1),)),)), (3, ((2, ((0, 2), (1, 1))),))
        self.assertEqual(crossed(one, two), (6, ((2, ((0, 5), (1, 4))),)))
        self.assertEqual(crossed(two, one), (6, ((2, ((0, 5), (2, 3))),)))
        self.assertEqual(crossed((0, ((2, ()),)), EDGE), (0, ((2, ()),)))

    def test_bounds(self):
        thirty = (30, ((2, ()),))
        self.assertEqual(beside(thirty, thirty), (60, ((2, ()),)))
        self.refuses("large", beside, thirty, (31, ((2, ()),)))
        self.assertEqual(crossed((20, ((2, ()),)), (3, ((2, ()),)))[0], 60)
        self.refuses("large", crossed, (61 - 30, ((2, ()),)), (2, ((2, ()),)))
        self.assertEqual(crossed((0, ((2, ()),)), (60, ((2, ()),)))[0], 0)

    def test_row_bounds(self):
        many = (30, ((3, rows_up_to(2000, 30)),))
        self.assertEqual(len(beside(many, many)[1][0][1]), 4000)
        self.refuses("large", beside, many, (30, ((3, rows_up_to(2001, 30)),)))
        table = (6, ((3, rows_up_to(100, 6)),))
        self.assertEqual(len(crossed(table, (6, ((3, rows_up_to(40, 6)),)))[1][0][1]), 4000)
        self.refuses("large", crossed, table, (6, ((3, rows_up_to(41, 6)),)))
        # The first table stays small, the second one does not.
        self.refuses("large", crossed, (6, ((1, ()),) + table[1]), (6, ((1, ()), (3, rows_up_to(41, 6)))))
        self.refuses("large", beside, many, (31, ((3, ()),)))

    def test_power(self):
        self.assertEqual(power_structure(MIXED, 0), (1, ((1, ((0,),)), (2, ((0, 0),)), (3, ((0, 0, 0),)))))
        self.assertEqual(power_structure((0, ((2, ()),)), 0), (1, ((2, ((0, 0),)),)))
        self.assertEqual(power_structure(EMPTY, 0), (1, ()))
        self.assertEqual(power_structure(MIXED, 1), MIXED)
        for k in range(2, 6):
            told = power_structure(EDGE, k)
            points = list(itertools.product(range(2), repeat=k))
            rows = [(points.index(x), points.index(y)) for x in points for y in points
                    if all((a, b) in EDGE[1][0][1] for a, b in zip(x, y))]
            self.assertEqual(told, (2 ** k, ((2, tuple(sorted(rows))),)))

    def test_power_counts(self):
        for seed in range(40):
            A, B = random_pair(seed, most_a=2, most_b=2)
            for k in range(3):
                self.assertEqual(hom(A, power_structure(B, k)), hom(A, B) ** k)

    def test_power_bounds(self):
        self.assertEqual(power_structure((7, ()), 2)[0], 49)
        self.refuses("large", power_structure, (8, ()), 2)
        self.refuses("large", power_structure, (2, ()), 6)
        self.refuses("large", power_structure, (2, ()), 10 ** 60)
        self.refuses("large", power_structure, (2, ((3, rows_up_to(8, 2)),)), 4)
        self.assertEqual(len(power_structure((2, ((3, rows_up_to(7, 2)),)), 4)[1][0][1]), 7 ** 4)
        for A in (EMPTY, (1, ((1, ((0,),)), (2, ()))), (0, ((2, ()),)), (1, ((3, ((0, 0, 0),)),))):
            self.assertEqual(power_structure(A, 10 ** 60), A)
            self.assertEqual(power_structure(A, 1), A)

    def test_malformed(self):
        for value in NO_STRUCTURES:
            for make in (beside, crossed):
                self.malformed(make, value, EDGE)
                self.malformed(make, EDGE, value)
            self.malformed(power_structure, value, 1)
        for make in (beside, crossed):
            self.malformed(make, EDGE, MIXED)
            # Unlike kinds come ahead of too many points.
            self.malformed(make, (60, ((2, ()),)), (60, ((1, ()),)))
        for k in (-1, True, None, "1", (1,), -10 ** 60):
            self.malformed(power_structure, EDGE, k)
            self.malformed(power_structure, EMPTY, k)


class Images(Case):
    def test_first_numbering(self):
        self.assertEqual(first_numbering(()), ())
        self.assertEqual(first_numbering((5, 2, 5, 9, 2)), (0, 1, 0, 2, 1))
        self.assertEqual(first_numbering((0, 1, 2)), (0, 1, 2))
        self.assertEqual(first_numbering((10 ** 60, 0)), (0, 1))
        self.assertEqual(first_numbering((0,) * 70), (0,) * 70)
        for value in ([0], (-1,), (True,), (0, None), ("0",), None, 0, "00", ((0,),), (0, [1]), {0: 0}):
            self.malformed(first_numbering, value)
        for value in WRONG:
            if not (isinstance(value, tuple) and all(brute.plain_integer(c) and c >= 0 for c in value)):
                self.malformed(first_numbering, value)

    def test_folded(self):
        self.assertEqual(folded_by(graph(3, [(0, 1), (1, 2)]), (5, 2, 5)), EDGE)
        self.assertEqual(folded_by(MIXED, (7, 7, 7)), (1, ((1, ((0,),)), (2, ((0, 0),)), (3, ((0, 0, 0),)))))
        self.assertEqual(folded_by(MIXED, (0, 1, 2)), MIXED)
        self.assertEqual(folded_by(EMPTY, ()), EMPTY)

    def test_folded_is_the_image(self):
        for seed in range(60):
            A = random_pair(seed)[0]
            rng = random.Random(seed)
            colouring = tuple(rng.randrange(3) for _ in range(A[0]))
            least = {}
            for colour in colouring:
                least.setdefault(colour, len(least))
            f = [least[colour] for colour in colouring]
            self.assertEqual(folded_by(A, colouring), brute.plain_image(A, f, len(least)))

    def test_folded_malformed(self):
        for colouring in ((0, 0), (0, 0, 0, 0), [0, 0, 0], (0, 0, -1), (0, 0, True), (0, 0, None), None, "000"):
            self.malformed(folded_by, MIXED, colouring)
        for value in NO_STRUCTURES:
            self.malformed(folded_by, value, (0,))
        for value in WRONG:
            self.malformed(folded_by, (5, ()), value)

    def test_restricted(self):
        self.assertEqual(restricted_to(MIXED, (0, 2)), (2, ((1, ((0,), (1,))), (2, ((0, 0),)), (3, ()))))
        self.assertEqual(restricted_to(MIXED, ()), (0, ((1, ()), (2, ()), (3, ()))))
        self.assertEqual(restricted_to(MIXED, (0, 1, 2)), MIXED)
        self.assertEqual(restricted_to(MIXED, (1,)), (1, ((1, ()), (2, ()), (3, ()))))
        for seed in range(60):
            A = random_pair(seed, most_a=5)[0]
            points = tuple(x for x in range(A[0]) if random.Random(seed + x).random() < 0.6)
            kept = tuple((arity, tuple(row for row in rows if set(row) <= set(points))) for arity, rows in A[1])
            places = {x: k for k, x in enumerate(points)}
            self.assertEqual(restricted_to(A, points), brute.plain_image((A[0], kept), places, len(points)))

    def test_restricted_malformed(self):
        for points in ((1, 0), (0, 0), (0, 3), (-1,), [0], (True,), ("0",), None, 0, ((0,),), (0, None)):
            self.malformed(restricted_to, MIXED, points)
        for value in NO_STRUCTURES:
            self.malformed(restricted_to, value, ())

    def test_renumbered(self):
        self.assertEqual(renumbered(MIXED, (1, 2, 0)), (3, (
            (1, ((0,), (1,))), (2, ((1, 1), (1, 2))), (3, ((0, 2, 1), (1, 2, 2))))))
        self.assertEqual(renumbered(EMPTY, ()), EMPTY)
        for seed in range(60):
            A = random_pair(seed, most_a=5)[0]
            f = list(range(A[0]))
            random.Random(seed).shuffle(f)
            self.assertEqual(renumbered(A, tuple(f)), brute.plain_image(A, f, A[0]))

    def test_renumbered_malformed(self):
        for f in ((0, 1), (0, 1, 1), (0, 1, 3), (0, 1, 2, 3), [0, 1, 2], (0, 1, -1), (0, True, 2), None, "012", ()):
            self.malformed(renumbered, MIXED, f)
        for value in NO_STRUCTURES:
            self.malformed(renumbered, value, ())


class Document(Case):
    def test_examples(self):
        path = graph_with(3, [(0, 1), (2, 1)])
        self.assertEqual((path, edges_of(path)),
                         ((3, ((2, ((0, 1), (1, 0), (1, 2), (2, 1))),)), ((0, 1), (1, 2))))
        self.assertEqual((edges_of(crossed(path, path)), pieces_of(beside(path, path))),
                         (((0, 4), (1, 3), (1, 5), (2, 4), (3, 7), (4, 6), (4, 8), (5, 7)), ((0, 1, 2), (3, 4, 5))))
        self.assertEqual(folded_by(path, (5, 2, 5)), (2, ((2, ((0, 1), (1, 0))),)))


if __name__ == "__main__":
    unittest.main()
