"""Judges of papers of cores, widths and numbers of maps: points 16.1 and 16.11 to 16.13."""

import unittest

import brute
from brute import WRONG, full_graph, graph, plain_maps, plain_structure, ring
from cases import Case
from judged import core_holds, kind, layers_holds, number_holds, spoilt, width_holds, within_holds
from plain import plain_layers, plain_order_tree, shuffled
from probeweb.bagjudges import takes_core, takes_layers, takes_number, takes_width, takes_within
from probeweb.bagpapers import core_paper, layers_paper, number_paper, width_paper, within_paper
from probeweb.bags import least_tree
from probeweb.searchpapers import search_paper
from test_bagpapers import dots, structures

NO_STRUCTURES = [value for value in WRONG if not plain_structure(value)]
EDGE, EMPTY = full_graph(2), (0, ((2, ()),))


class Judged(Case):
    def held(self, takes, holds, told, papers, rng, many):
        """The judge answers as the plain one; the papers that it takes come back."""
        tried = list(papers) + list(WRONG)
        for paper in papers:
            tried += [spoilt(rng, paper) for _ in range(many)] + [list(paper), paper + (0,), paper[:-1], paper[::-1]]
        taken = []
        for paper in tried:
            right = holds(*told, paper)
            self.assertIs(takes(*told, paper), right, (told, paper))
            if right:
                taken.append(paper)
        return taken


class Cores(Judged):
    def test_by_chance(self):
        for rng, A in structures(50):
            paper = core_paper(A)
            self.assertTrue(takes_core(A, paper))
            other = shuffled(A, rng)
            for taken in self.held(takes_core, core_holds, (A,), [paper, core_paper(other)], rng, 40):
                self.assertEqual(len(taken[1]), len(paper[1]))

    def test_bars(self):
        A = ring(5)
        _, points, f, bars = core_paper(A)
        self.assertFalse(takes_core(A, ("core", points, f, bars[:-1])))
        self.assertFalse(takes_core(A, ("core", points, f, bars + bars[-1:])))
        turned = bars[1:] + bars[:1]
        self.assertIs(takes_core(A, ("core", points, f, turned)), core_holds(A, ("core", points, f, turned)))
        # A paper of a map among the bars, where there is one.
        square, edge = ring(4), (0, 1)
        self.assertTrue(takes_core(square, core_paper(square)))
        every = (0, 1, 2, 3)
        maps = tuple(search_paper(square, graph(3, [(0, 1), (1, 2)])) for _ in every)
        self.assertFalse(takes_core(square, ("core", every, every, maps)))
        # Three points of the square: without an end they still map, without the middle they do not.
        three, path = (0, 1, 2), graph(3, [(0, 1), (1, 2)])
        bars = [search_paper(path, end) for end in (graph(2, [(0, 1)]), dots(2), graph(2, [(0, 1)]))]
        self.assertEqual([bar[0] for bar in bars], ["map", "refuted", "map"])
        self.assertFalse(takes_core(square, ("core", three, (0, 1, 2, 1), tuple(bars))))
        self.assertFalse(core_holds(square, ("core", three, (0, 1, 2, 1), tuple(bars))))
        _, _, g, two = core_paper(square)
        for points, right in ((edge, True), ((1, 2), True), ((0, 2), False), ((0,), False), ((1, 0), False), ((0, 1, 2), False)):
            paper = ("core", points, g if points != (1, 2) else (1, 0, 1, 0), two)
            self.assertIs(takes_core(square, paper), right, points)
            self.assertIs(core_holds(square, paper), right)

    def test_sizes(self):
        self.assertTrue(takes_core(EMPTY, ("core", (), (), ())))
        self.assertFalse(takes_core(EMPTY, ("core", (), (), ((),))))
        self.assertTrue(takes_core(full_graph(8), core_paper(full_graph(8))))
        # Judged to 12 points, though told to 8.
        some = ("cut", ((((), 1), ("some", 0)),))
        self.assertTrue(takes_core(dots(12), ("core", (3,), (0,) * 12, (some,))))
        self.assertTrue(takes_core(dots(12), ("core", (3,), (0,) * 12, (("refuted", (((), ("point", 0, ())),)),))))
        self.assertFalse(takes_core(dots(12), ("core", (3,), (3,) * 12, (some,))))
        self.refuses("large", takes_core, dots(13), None)


class Widths(Judged):
    def test_by_chance(self):
        for rng, A in structures(50):
            width, k = width_paper(A), rng.randint(-2, A[0])
            self.assertTrue(takes_width(A, width))
            for taken in self.held(takes_width, width_holds, (A,), [width, width_paper(shuffled(A, rng))], rng, 40):
                self.assertEqual(taken[1], width[1])
            paper = within_paper(A, k)
            self.assertTrue(takes_within(A, k, paper))
            papers = [paper, ("within", width[2]), ("above", width[3]), ("above", ()), ("within", ((tuple(range(A[0])),), (-1,)))]
            words = {taken[0] for taken in self.held(takes_within, within_holds, (A, k), papers, rng, 25)}
            self.assertEqual(len(words), 1)

    def test_known(self):
        path = graph(3, [(0, 1), (1, 2)])
        tree = (((0, 1), (1, 2)), (-1, 0))
        self.assertTrue(takes_width(path, ("width", 1, tree, ((0,), (1,)))))
        # A width as True, the tree of another structure, thickets of a lesser and a greater order.
        for k, told, thicket in ((True, tree, ((0,), (1,))), (1, (((0, 1), (0, 2)), (-1, 0)), ((0,), (1,))), (1, tree, ((0,),)),
                                 (1, tree, ()), (2, tree, ((0,), (1,))), (1, tree, ((0,), (2,))), (0, tree, ((0,),)),
                                 (1, tree, [(0,), (1,)]), ((1,), tree, ((0,), (1,))), (1, (((0, 1, 2),), (-1,)), ((0,), (1,)))):
            self.assertFalse(takes_width(path, ("width", k, told, thicket)))
        self.assertTrue(takes_width(EMPTY, ("width", -1, (((),), (-1,)), ())))
        self.assertFalse(takes_width(EMPTY, ("width", 0, (((),), (-1,)), ())))
        self.assertEqual([takes_within(path, k, ("above", ((0,), (1,)))) for k in (-2, -1, 0, 1, 2)], [True] * 3 + [False] * 2)
        self.assertEqual([takes_within(path, k, ("within", tree)) for k in (-2, -1, 0, 1, 2, 10 ** 60)], [False] * 3 + [True] * 3)
        self.assertEqual([takes_within(EMPTY, k, ("above", ())) for k in (-10 ** 60, -2, -1)], [True, True, False])
        self.assertEqual([takes_within(EMPTY, k, ("within", (((),), (-1,)))) for k in (-2, -1, 0)], [False, True, True])
        every = full_graph(12)
        self.assertTrue(takes_width(every, ("width", 11, ((tuple(range(12)),), (-1,)), tuple((x,) for x in range(12)))))
        self.assertFalse(takes_width(every, ("width", 11, ((tuple(range(12)),), (-1,)), tuple((x,) for x in range(11)))))

    def test_errors(self):
        for value in NO_STRUCTURES:
            self.malformed(takes_width, value, None)
            self.malformed(takes_core, value, None)
            self.malformed(takes_within, value, 1, None)
        for k in (None, True, False, "1", (1,), [1]):
            self.malformed(takes_within, EDGE, k, None)
            self.malformed(takes_within, dots(60), k, None)
        for paper in (None, ("within", (((),), (-1,))), ("width", 0, (((0,),), (-1,)), ())):
            self.assertIn(takes_width(dots(12), paper), (True, False))
            self.refuses("large", takes_width, dots(13), paper)
            self.refuses("large", takes_within, dots(13), 0, paper)
            self.assertIs(takes_within(dots(12), 0, paper), False)


class Numbers(Judged):
    def test_by_chance(self):
        for rng, A in structures(50, 4):
            B = brute.structure(rng, kind(A), rng.randint(0, 3), 8)
            tree = plain_order_tree(A, rng.sample(range(A[0]), A[0]))
            papers = [number_paper(A, B, least_tree(A)), number_paper(A, B, tree)]
            papers += [papers[0][:2] + papers[1][2:], papers[0][:3] + papers[1][3:]]
            self.assertTrue(takes_number(A, B, papers[0]) and takes_number(A, B, papers[1]))
            for taken in self.held(takes_number, number_holds, (A, B), papers, rng, 25):
                self.assertEqual(taken[1], papers[0][1])

    def test_states(self):
        path = graph(3, [(0, 1), (1, 2)])
        tree = (((0, 1), (1, 2)), (-1, 0))
        one, two = (((0, 1), 2), ((1, 0), 1), ((1, 2), 1), ((2, 1), 2)), (((0, 1), 1), ((1, 0), 1), ((1, 2), 1), ((2, 1), 1))
        self.assertTrue(takes_number(path, path, ("number", 6, tree, (one, two))))
        # States that are not ascending, with the number 0, left out, of another tree; truth values for integers.
        for c, states in ((6, (one[::-1], two)), (6, ((((0, 0), 0),) + one, two)), (6, (one[:-1], two)), (4, (one[:-1], two)),
                          (6, (one, two[1:])), (6, (two, one)), (7, (one, two)), (6, (one,)), (6, (one, two, two)),
                          (6, (one, (((0, 1), True),) + two[1:])), (6, (one, (((0, True), 1),) + two[1:])), (6, [one, two]),
                          (6, (list(one), two)), (6, (one + one[-1:], two)), ("6", (one, two)), ((6,), (one, two))):
            self.assertFalse(takes_number(path, path, ("number", c, tree, states)))
        self.assertFalse(takes_number(path, path, ("number", 6, (tree[0][::-1], tree[1]), (one, two))))
        self.assertTrue(takes_number(EDGE, EDGE, ("number", 2, (((0, 1),), (-1,)), ((((0, 1), 1), ((1, 0), 1)),))))
        self.assertFalse(takes_number(dots(1), dots(1), ("number", True, (((0,),), (-1,)), ((((0,), 1),),))))

    def test_bounds(self):
        wide = ((tuple(range(4)),), (-1,))
        self.assertTrue(takes_number(dots(4), dots(21), number_paper(dots(4), dots(21), wide)))
        narrow = (tuple((x,) for x in range(4)), (-1, 0, 0, 0))
        self.assertTrue(takes_number(dots(4), dots(22), number_paper(dots(4), dots(22), narrow)))
        self.assertFalse(takes_number(dots(4), dots(22), ("number", 22 ** 4, wide, ())))
        self.assertFalse(takes_number(dots(12), dots(60), ("number", 60 ** 12, ((tuple(range(12)),), (-1,)), ())))
        self.assertTrue(takes_number(EMPTY, dots(60), ("number", 1, (((),), (-1,)), ((((), 1),),))))
        self.malformed_pairs(takes_number, NO_STRUCTURES, EDGE, None)
        self.malformed(takes_number, EDGE, dots(2, 1), None)
        self.malformed(takes_number, dots(60), dots(60, 1), None)
        self.assertIs(takes_number(dots(12), dots(60), None), False)
        self.refuses("large", takes_number, dots(13), EDGE, None)
        self.refuses("large", takes_number, dots(13), EDGE, number_paper(dots(13), EDGE, (tuple((x,) for x in range(13)), (-1,) + (0,) * 12)))


class Layers(Judged):
    def test_by_chance(self):
        for rng, A in structures(50, 4):
            B = brute.structure(rng, kind(A), rng.randint(1, 3), 8)
            if A[0] == 0:
                continue
            order, other = tuple(rng.sample(range(A[0]), A[0])), tuple(rng.sample(range(A[0]), A[0]))
            maps = plain_maps(A, B)
            papers = [layers_paper(A, B, order), layers_paper(A, B, other)]
            self.assertTrue(takes_layers(A, B, order, papers[0]))
            # Layers of less maps and of more.
            papers.append(("layers", plain_layers(A[0], B[0], maps[1:], order)))
            papers.append(("layers", plain_layers(A[0], B[0], maps + [(0,) * A[0]], order)))
            for taken in self.held(takes_layers, layers_holds, (A, B, order), papers, rng, 25):
                self.assertEqual(taken, papers[0])

    def test_known(self):
        d = (2, (0, 1), (((0, 1),), ((-1, 0), (0, -1))))
        self.assertTrue(takes_layers(EDGE, EDGE, (0, 1), ("layers", d)))
        self.assertFalse(takes_layers(EDGE, EDGE, (1, 0), ("layers", d)))
        for value in ((2, (False, True), d[2]), (2, (0, 1), (((0, True),), d[2][1])), list(d), d[:2], (2, (0, 1), ((), ())), None,
                      (2, (0, 1), (((1, 0),), ((0, -1), (-1, 0))))):
            self.assertFalse(takes_layers(EDGE, EDGE, (0, 1), ("layers", value)))
        self.assertTrue(takes_layers(EDGE, dots(2), (0, 1), ("layers", (2, (0, 1), ((), ())))))

    def test_errors(self):
        self.malformed_pairs(takes_layers, NO_STRUCTURES, EDGE, (0, 1), None)
        for order in (None, (0,), (0, 0), [0, 1], (False, True)):
            self.malformed(takes_layers, EDGE, EDGE, order, None)
        self.malformed(takes_layers, dots(13), EDGE, tuple(range(13)), None)
        self.malformed(takes_layers, EMPTY, EDGE, (), None)
        self.malformed(takes_layers, EDGE, dots(9), (0, 1), None)
        star = graph(6, [(5, x) for x in range(5)])
        self.refuses("large", takes_layers, star, dots(8), (0, 1, 2, 3, 4, 5), None)
        self.assertIs(takes_layers(star, dots(8), (5, 0, 1, 2, 3, 4), None), False)


class Examples(unittest.TestCase):
    def test_examples(self):
        from probeweb.structures import graph_with
        path = graph_with(3, [(0, 1), (1, 2)])
        self.assertIs(takes_width(path, ("width", 1, (((0, 1), (1, 2)), (-1, 0)), ((0,), (1,)))), True)
        self.assertEqual((takes_within(path, 0, ("above", ((0,), (1,)))), takes_within(path, 1, ("above", ((0,), (1,))))),
                         (True, False))
        self.assertIs(takes_number(path, path, ("number", 6, (((0, 1), (1, 2)), (-1, 0)), (
            (((0, 1), 2), ((1, 0), 1), ((1, 2), 1), ((2, 1), 2)), (((0, 1), 1), ((1, 0), 1), ((1, 2), 1), ((2, 1), 1))))), True)


if __name__ == "__main__":
    unittest.main()
