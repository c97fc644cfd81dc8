"""Papers of cores, widths and numbers of maps: points 16.11 to 16.13."""

import itertools
import random
import unittest

import brute
from brute import WRONG, full_graph, graph, hom, plain_maps, plain_structure, ring
from cases import Case
from judged import core_holds, kind, layers_holds, number_holds, plain_restricted, tree_width, width_holds, within_holds
from plain import plain_layers, plain_order_tree, plain_width
from probeweb.bagpapers import core_paper, layers_paper, number_paper, width_paper, within_paper
from probeweb.bags import least_tree
from probeweb.maps import core_points

NO_STRUCTURES = [value for value in WRONG if not plain_structure(value)]
EDGE, EMPTY = full_graph(2), (0, ((2, ()),))


def dots(n, arity=2):
    return (n, ((arity, ()),))


def structures(many=60, most=5, arities=(1, 2, 3)):
    for seed in range(many):
        rng = random.Random(seed)
        told = brute.random_kind(rng, arities, 2)
        yield rng, brute.structure(rng, told, rng.randint(0, most), 8)
    for A in (EMPTY, (0, ()), (1, ()), ring(5), ring(4), full_graph(4), graph(5, [(0, 1), (2, 3)])):
        yield random.Random(1), A


def plain_core(A):
    """The least core set, by trying all sets and functions."""
    for size in range(A[0] + 1):
        for points in itertools.combinations(range(A[0]), size):
            if plain_maps(A, plain_restricted(A, points)):
                return points
    return None


class Cores(Case):
    def test_by_chance(self):
        words = set()
        for _, A in structures(80):
            paper = core_paper(A)
            self.assertTrue(core_holds(A, paper))
            self.assertEqual(paper[1], plain_core(A))
            self.assertEqual(paper[1], core_points(A))
            words |= {bar[0] for bar in paper[3]}
        self.assertEqual(words, {"refuted", "cut"})

    def test_known(self):
        self.assertEqual(core_paper(EMPTY), ("core", (), (), ()))
        self.assertEqual(core_paper(ring(4))[:3], ("core", (0, 1), (0, 1, 0, 1)))
        self.assertEqual(core_paper(ring(7))[1], tuple(range(7)))
        # Eight points that are all joined, and eight with all rows of three unlike points.
        for A in (full_graph(8), (8, ((3, tuple(itertools.permutations(range(8), 3))),)), ring(8), dots(8)):
            paper = core_paper(A)
            self.assertTrue(core_holds(A, paper))
            self.assertEqual(len(paper[1]), {56: 8, 336: 8, 16: 2, 0: 1}[len(A[1][0][1])])

    def test_errors(self):
        for value in NO_STRUCTURES:
            self.malformed(core_paper, value)
        self.assertEqual(len(core_paper(dots(8))), 4)
        self.refuses("large", core_paper, dots(9))


class Widths(Case):
    def test_by_chance(self):
        for _, A in structures():
            width = plain_width(A)
            paper = width_paper(A)
            self.assertEqual(paper[:2], ("width", width))
            self.assertTrue(width_holds(A, paper))
            for k in range(-2, A[0] + 2):
                told = within_paper(A, k)
                self.assertEqual(told[0], "within" if width <= k else "above")
                self.assertTrue(within_holds(A, k, told))

    def test_known(self):
        self.assertEqual(width_paper(EMPTY), ("width", -1, (((),), (-1,)), ()))
        self.assertEqual((within_paper(EMPTY, -1)[0], within_paper(EMPTY, -2)), ("within", ("above", ())))
        self.assertEqual((within_paper(EDGE, 10 ** 60)[0], within_paper(EDGE, -10 ** 60)[0]), ("within", "above"))
        self.assertEqual([width_paper(A)[1] for A in (dots(12), ring(12), full_graph(12))], [0, 2, 11])

    def test_errors(self):
        for value in NO_STRUCTURES:
            self.malformed(width_paper, value)
            self.malformed(within_paper, value, 1)
        for k in (None, True, False, "1", (1,), [1]):
            self.malformed(within_paper, EDGE, k)
            self.malformed(within_paper, dots(60), k)
        self.assertEqual((len(width_paper(dots(12))), len(within_paper(dots(12), 0))), (4, 2))
        self.refuses("large", width_paper, dots(13))
        self.refuses("large", within_paper, dots(13), 0)


class Numbers(Case):
    def test_by_chance(self):
        for rng, A in structures(80, 4):
            B = brute.structure(rng, kind(A), rng.randint(0, 3), 8)
            order = rng.sample(range(A[0]), A[0])
            for tree in (least_tree(A), plain_order_tree(A, order)):
                paper = number_paper(A, B, tree)
                self.assertEqual(paper[:3], ("number", hom(A, B), tree))
                self.assertTrue(number_holds(A, B, paper))

    def test_known(self):
        path = graph(3, [(0, 1), (1, 2)])
        tree = (((0, 1), (1, 2)), (-1, 0))
        self.assertEqual(number_paper(path, path, tree), (
            "number", 6, tree, ((((0, 1), 2), ((1, 0), 1), ((1, 2), 1), ((2, 1), 2)),
                                (((0, 1), 1), ((1, 0), 1), ((1, 2), 1), ((2, 1), 1)))))
        self.assertEqual(number_paper(EMPTY, EMPTY, (((),), (-1,))), ("number", 1, (((),), (-1,)), ((((), 1),),)))
        self.assertEqual(number_paper(EDGE, EMPTY, (((0, 1),), (-1,))), ("number", 0, (((0, 1),), (-1,)), ((),)))
        # More points than a width is looked for.
        n = 60
        line = (tuple((k, k + 1) for k in range(n - 1)), (-1,) + tuple(range(n - 2)))
        self.assertEqual(number_paper(graph(n, [(k, k + 1) for k in range(n - 1)]), EDGE, line)[1], 2)

    def test_errors(self):
        tree = (((0, 1),), (-1,))
        self.malformed_pairs(number_paper, NO_STRUCTURES, EDGE, tree)
        self.malformed(number_paper, EDGE, dots(2, 1), tree)
        for value in WRONG + ((((0,), (1,)), (-1, 0)), ((((0, 1),), (0,))), (((0, 1),), (-1, -1)), [((0, 1),), (-1,)]):
            self.malformed(number_paper, EDGE, EDGE, value)
        wide = (tuple([tuple(range(4))]), (-1,))
        self.assertEqual(number_paper(dots(4), dots(21), wide)[1], 21 ** 4)
        self.refuses("large", number_paper, dots(4), dots(22), wide)
        self.assertEqual(tree_width(wide), 3)
        self.malformed(number_paper, dots(5), dots(22), wide)


class Layers(Case):
    def test_by_chance(self):
        for rng, A in structures(80, 4):
            B = brute.structure(rng, kind(A), rng.randint(0, 3), 8)
            order = tuple(rng.sample(range(A[0]), A[0]))
            if A[0] == 0 or B[0] == 0:
                self.malformed(layers_paper, A, B, order)
                continue
            paper = layers_paper(A, B, order)
            self.assertEqual(paper, ("layers", plain_layers(A[0], B[0], plain_maps(A, B), order)))
            self.assertTrue(layers_holds(A, B, order, paper))

    def test_errors(self):
        self.malformed_pairs(layers_paper, NO_STRUCTURES, EDGE, (0, 1))
        self.malformed(layers_paper, EDGE, dots(2, 1), (0, 1))
        for order in (None, (0,), (0, 0), (0, 1, 2), [0, 1], (False, True), "01"):
            self.malformed(layers_paper, EDGE, EDGE, order)
        self.malformed(layers_paper, dots(13), dots(1), tuple(range(13)))
        self.malformed(layers_paper, dots(1), dots(9), (0,))
        self.assertEqual(layers_paper(dots(12), dots(8), tuple(range(12)))[0], "layers")
        # A front of four points, and of three.
        star = graph(6, [(5, x) for x in range(5)])
        self.refuses("large", layers_paper, star, dots(8), (0, 1, 2, 3, 4, 5))
        self.assertEqual(layers_paper(star, dots(8), (5, 0, 1, 2, 3, 4))[0], "layers")


if __name__ == "__main__":
    unittest.main()
