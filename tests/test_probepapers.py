"""Papers of probes: points 16.2 to 16.5."""

import random
import unittest

import brute
from brute import (
    WRONG, full_graph, graph, plain_even, plain_rounds, plain_signature, plain_strand, plain_structure, plain_tree, ring)
from cases import Case
from plain import is_prime, plain_pair_colouring, plain_turned
from probeweb.arcs import greatest_lists, is_closed_lists
from probeweb.pairing import joint_pairs, same_pairs
from probeweb.pebbles import greatest_strategy, is_strategy, strategy_stands
from probeweb.probepapers import colours_paper, even_paper, lists_paper, pairs_paper, strategy_paper
from probeweb.refining import even_matrix, joint_colouring, same_colours
from probeweb.strands import strand_reaches, strand_rest
from probeweb.structures import kind_of
from probeweb.trees import tree_reaches, tree_rest

NO_STRUCTURES = [value for value in WRONG if not plain_structure(value)]
NOT_BINARY = (1, ((2, ()), (3, ())))
EDGE, TRIANGLE = full_graph(2), full_graph(3)
HEXAGON = ring(6)
TRIANGLES = graph(6, [(0, 1), (1, 2), (0, 2), (3, 4), (4, 5), (3, 5)])
EMPTY = (0, ((2, ()),))


def pairs(arities, many=250):
    for seed in range(many):
        rng = random.Random(seed)
        kind = brute.random_kind(rng, arities, 2)
        n = rng.randint(0, 4)
        A = brute.structure(rng, kind, n, 6)
        yield A, brute.structure(rng, kind, rng.choice((n, rng.randint(0, 4))), 6)
        m = list(range(n))
        rng.shuffle(m)
        yield A, plain_turned(A, m)
    for A, B in ((HEXAGON, TRIANGLES), (TRIANGLE, EDGE), (EDGE, TRIANGLE), (EMPTY, EDGE), (EDGE, EMPTY), (EMPTY, EMPTY)):
        yield A, B


class Papers(Case):
    def told(self, words, paper, size):
        self.assertTrue(isinstance(paper, tuple) and len(paper) == size)
        self.words[paper[0]] = self.words.get(paper[0], 0) + 1
        self.assertIn(paper[0], words)

    def setUp(self):
        self.words = {}

    def seen(self, *words):
        self.assertEqual(set(self.words), set(words))
        self.assertGreater(min(self.words.values()), 20)

    def test_lists(self):
        for A, B in pairs((1, 2, 3)):
            paper = lists_paper(A, B)
            self.told(("lists", "tree"), paper, 2)
            lists = plain_rounds(A, B, A[0] * B[0] + 1)[-1]
            self.assertIs(paper[0] == "lists", () not in lists)
            if paper[0] == "lists":
                self.assertEqual(paper[1], lists)
                self.assertEqual(paper[1], greatest_lists(A, B))
                self.assertTrue(is_closed_lists(A, B, paper[1]) and () not in paper[1])
            else:
                self.assertTrue(plain_tree(paper[1], kind_of(A)))
                self.assertNotEqual(tree_reaches(paper[1], A)[-1], ())
                self.assertEqual(tree_reaches(paper[1], B)[-1], ())
        self.seen("lists", "tree")

    def test_strategies(self):
        for A, B in pairs((1, 2)):
            if B[0] > 5:
                continue
            paper = strategy_paper(A, B)
            self.told(("strategy", "strand"), paper, 2)
            self.assertIs(paper[0] == "strategy", strategy_stands(A, B))
            if paper[0] == "strategy":
                self.assertEqual(paper[1], greatest_strategy(A, B))
                self.assertTrue(is_strategy(A, B, paper[1]) and not any(() in line for line in paper[1]))
            else:
                self.assertTrue(plain_strand(paper[1], kind_of(A)))
                self.assertNotEqual(strand_reaches(paper[1], A)[-1], ())
                self.assertEqual(strand_reaches(paper[1], B)[-1], ())
        self.seen("strategy", "strand")

    def check_trees(self, A, B, paper):
        _, tree, l = paper
        self.assertTrue(plain_tree(tree, kind_of(A)) and is_prime(l) and l > 1000000)
        self.assertNotEqual(tree_rest(tree, A, l), tree_rest(tree, B, l))

    def test_colours(self):
        for A, B in pairs((1, 2, 3)):
            paper = colours_paper(A, B)
            self.told(("classes", "trees"), paper, 3)
            self.assertIs(paper[0] == "classes", same_colours(A, B))
            if paper[0] == "trees":
                self.check_trees(A, B, paper)
                continue
            one, two = paper[1:]
            self.assertEqual((one, two), joint_colouring(A, B))
            self.assertEqual(sorted(one), sorted(two))
            signatures = [plain_signature(A, one, x) for x in range(A[0])] + [plain_signature(B, two, x) for x in range(B[0])]
            self.assertEqual(len(set(signatures)), len({told[0] for told in signatures}))
        self.seen("classes", "trees")

    def test_even(self):
        for A, B in pairs((1, 2)):
            paper = even_paper(A, B)
            self.assertIs(paper[0] == "even", same_colours(A, B))
            if paper[0] == "even":
                self.told(("even",), paper, 2)
                self.assertEqual(paper[1], even_matrix(A, B))
                self.assertTrue(plain_even(A, B, paper[1]))
            else:
                self.told(("trees",), paper, 3)
                self.check_trees(A, B, paper)
        self.seen("even", "trees")

    def test_pairs(self):
        for A, B in pairs((1, 2)):
            paper = pairs_paper(A, B)
            self.assertIs(paper[0] == "pairs", same_pairs(A, B))
            if paper[0] == "pairs":
                self.told(("pairs",), paper, 2)
                self.assertEqual(paper[1], joint_pairs(A, B))
                self.assertTrue(plain_pair_colouring(A, B, paper[1]))
            else:
                self.told(("strands",), paper, 3)
                _, strand, l = paper
                self.assertTrue(plain_strand(strand, kind_of(A)) and is_prime(l) and l > 1000000)
                self.assertNotEqual(strand_rest(strand, A, l), strand_rest(strand, B, l))
        self.seen("pairs", "strands")

    def test_known(self):
        self.assertEqual(lists_paper(ring(4), EDGE), ("lists", ((0, 1),) * 4))
        self.assertEqual(lists_paper(EMPTY, EDGE), ("lists", ()))
        self.assertEqual(strategy_paper(EMPTY, EMPTY), ("strategy", ()))
        self.assertEqual(strategy_paper(TRIANGLE, EDGE)[0], "strand")
        self.assertEqual(colours_paper(HEXAGON, TRIANGLES), ("classes", (0,) * 6, (0,) * 6))
        self.assertEqual(even_paper(HEXAGON, TRIANGLES), ("even", (((1, 6),) * 6,) * 6))
        self.assertEqual(pairs_paper(HEXAGON, TRIANGLES)[0], "strands")
        self.assertEqual((even_paper(EMPTY, EMPTY), pairs_paper(EMPTY, EMPTY)), (("even", ()), ("pairs", ((), ()))))
        self.assertEqual(colours_paper((1, ()), (2, ()))[0], "trees")


class Errors(Case):
    def test_malformed(self):
        for ask in (lists_paper, strategy_paper, colours_paper, even_paper, pairs_paper):
            self.malformed_pairs(ask, NO_STRUCTURES, EDGE)
            self.malformed(ask, EDGE, (2, ((1, ()),)))
            self.malformed(ask, (60, ((2, ()),)), (60, ((1, ()),)))
        for ask in (strategy_paper, even_paper, pairs_paper):
            self.malformed(ask, NOT_BINARY, NOT_BINARY)
            self.malformed(ask, (60, ((3, ()),)), (60, ((3, ()),)))
        for ask in (lists_paper, colours_paper):
            self.assertIn(ask(NOT_BINARY, NOT_BINARY)[0], ("lists", "classes"))

    def test_refused(self):
        def dots(n):
            return (n, ((2, ()),))
        for ask, most_a, most_b in ((lists_paper, 60, 12), (strategy_paper, 12, 5), (colours_paper, 40, 40),
                                    (even_paper, 40, 40), (pairs_paper, 16, 16)):
            self.assertEqual(len(ask(dots(min(most_a, most_b)), dots(most_b))) > 1, True)
            self.refuses("large", ask, dots(most_a), dots(most_b + 1))
            if most_a < 60:
                self.refuses("large", ask, dots(most_a + 1), dots(most_b))
        full = (21, ((2, tuple((x, y) for x in range(21) for y in range(21))[:401]),))
        for ask in (lists_paper, colours_paper, even_paper):
            self.refuses("large", ask, full, full)


if __name__ == "__main__":
    unittest.main()
