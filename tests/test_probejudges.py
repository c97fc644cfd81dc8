"""Judges of papers of probes: points 16.1 to 16.5."""

import random
import unittest

import brute
from brute import (
    WRONG, directed_path, full_graph, graph, plain_rounds, plain_structure, random_strand, random_tree, ring,
    sets_as_strategy)
from cases import Case
from judged import (
    colours_holds, kind, lists_holds, pairs_holds, spoilt, strategy_holds, strand_numbers, tree_numbers)
from plain import plain_turned, shuffled
from probeweb.probejudges import takes_colours, takes_lists, takes_pairs, takes_strategy
from probeweb.probepapers import colours_paper, even_paper, lists_paper, pairs_paper, strategy_paper

NO_STRUCTURES = [value for value in WRONG if not plain_structure(value)]
EDGE, TRIANGLE, HEXAGON = full_graph(2), full_graph(3), ring(6)
TRIANGLES = graph(6, [(0, 1), (1, 2), (0, 2), (3, 4), (4, 5), (3, 5)])
EMPTY = (0, ((2, ()),))
YES = {"lists": True, "strategy": True, "classes": True, "even": True, "pairs": True,
       "tree": False, "strand": False, "trees": False, "strands": False}


def pairs(arities, many=60, most=4):
    for seed in range(many):
        rng = random.Random(seed)
        arity = brute.random_kind(rng, arities, 2)
        n = rng.randint(0, most)
        A = brute.structure(rng, arity, n, 6)
        yield rng, A, brute.structure(rng, arity, rng.choice((n, rng.randint(0, most))), 6)
        yield rng, A, shuffled(A, rng)
    for A, B in ((TRIANGLE, EDGE), (EDGE, TRIANGLE), (EMPTY, EDGE), (EDGE, EMPTY), (EMPTY, EMPTY), ((0, ()), (0, ())),
                 (ring(4), EDGE), (directed_path(3), directed_path(2)), (graph(3, []), graph(2, []))):
        yield random.Random(1), A, B


class Judged(Case):
    """The judge answers as the plain one, and never takes papers of both answers."""

    def held(self, takes, holds, rng, A, B, papers, many):
        taken = set()
        tried = list(papers) + list(WRONG)
        for paper in papers:
            tried += [spoilt(rng, paper) for _ in range(many)] + [list(paper), paper + (0,), paper[:1], paper[1:]]
        for paper in tried:
            right = holds(A, B, paper)
            self.assertIs(takes(A, B, paper), right, (A, B, paper))
            if right:
                taken.add(YES[paper[0]])
        self.assertLessEqual(len(taken), 1, (A, B))
        return taken

    def run_all(self, takes, holds, told, arities, more, many=25, most=4):
        seen = {True: 0, False: 0}
        for rng, A, B in pairs(arities, most=most):
            papers = [told(A, B)]
            self.assertIs(takes(A, B, papers[0]), True)
            # The paper of the pair that is turned round, and papers of the same form by chance.
            papers += [told(B, A)] + more(rng, A, B)
            taken = self.held(takes, holds, rng, A, B, papers, many)
            self.assertEqual(len(taken), 1)
            seen[taken.pop()] += 1
        self.assertGreater(min(seen.values()), 10)


def chance_lists(rng, A, B):
    every = tuple(range(B[0]))
    rounds = plain_rounds(A, B, 2)
    made = [("lists", lists) for lists in rounds]
    made.append(("lists", tuple(tuple(b for b in every if rng.random() < 0.7) for _ in range(A[0]))))
    made.append(("lists", tuple(row[:1] for row in rounds[-1])))
    return made + [("tree", random_tree(rng, kind(A), rng.randint(1, 4))) for _ in range(3)]


def chance_sets(rng, A, B):
    sets = {(a, c): {(b, d) for b in range(B[0]) for d in range(B[0])} for a in range(A[0]) for c in range(A[0])}
    f = [rng.randrange(B[0]) for _ in range(A[0])] if B[0] else [0] * A[0]
    one = {(a, c): {(f[a], f[c])} for a in range(A[0]) for c in range(A[0])}
    made = [("strategy", sets_as_strategy(A, sets)), ("strategy", sets_as_strategy(A, one))]
    return made + [("strand", random_strand(rng, kind(A), rng.randint(1, 5))) for _ in range(3)]


def chance_colours(rng, A, B):
    one = tuple(rng.randrange(2) for _ in range(A[0]))
    made = [("classes", one, tuple(rng.randrange(2) for _ in range(B[0]))), ("classes", (0,) * A[0], (0,) * B[0]),
            ("classes", tuple(range(A[0])), tuple(range(B[0])))]
    if A[0] > 0:
        made.append(("even", (((1, A[0]),) * B[0],) * A[0]))
    made.append(("even", tuple(tuple((int(x == y), 1) for y in range(B[0])) for x in range(A[0]))))
    return made + [("trees", random_tree(rng, kind(A), rng.randint(1, 4)), rng.choice((1, 2, 3, 7, 0))) for _ in range(3)]


def chance_pairs(rng, A, B):
    made = [("pairs", (((0,) * A[0],) * A[0], ((0,) * B[0],) * B[0]))]
    names = [tuple(tuple(x * C[0] + y for y in range(C[0])) for x in range(C[0])) for C in (A, B)]
    made.append(("pairs", tuple(names)))
    return made + [("strands", random_strand(rng, kind(A), rng.randint(1, 5)), rng.choice((1, 2, 3, 7, 0))) for _ in range(3)]


class Lists(Judged):
    def test_by_chance(self):
        self.run_all(takes_lists, lists_holds, lists_paper, (1, 2, 3), chance_lists)

    def test_known(self):
        path, short = directed_path(3), directed_path(2)
        tree = ((), ((0, 1, (0,), 1), (0, 0, (0,), 1)))
        self.assertTrue(takes_lists(path, short, ("tree", tree)))
        self.assertFalse(takes_lists(short, path, ("tree", tree)))
        # Round 0 is not closed, and closed lists need not be the greatest ones.
        self.assertFalse(takes_lists(path, short, ("lists", ((0, 1),) * 3)))
        self.assertFalse(takes_lists(path, short, ("lists", ((), (), ()))))
        ends = (3, ((2, ((0, 1), (1, 0), (1, 2), (2, 1))),))
        for lists, right in ((((0,), (1,)), True), (((0, 1, 2),) * 2, True), (((0, 2), (1,)), True), (((1,), (0,)), True),
                             (((1,), ()), False), (((0,), (2,)), False), (((2, 0), (1,)), False), (((0, 0), (1,)), False)):
            self.assertIs(takes_lists(EDGE, ends, ("lists", lists)), right)
        # A last reach that is empty in both, in none, in one.
        far = ((), ((0, 1, (0,), 1),), ((0, 1, (1,), 1),), ((0, 1, (2,), 1),))
        for rows, right in ((4, False), (3, True), (2, False), (1, False)):
            self.assertIs(takes_lists(path, short, ("tree", far[:rows])), right)
        self.assertTrue(takes_lists(EMPTY, EDGE, ("lists", ())))
        self.assertFalse(takes_lists(EMPTY, EDGE, ("tree", ((),))))
        self.assertTrue(takes_lists(EDGE, EMPTY, ("tree", ((),))))
        self.assertTrue(takes_lists((2, ()), (1, ()), ("lists", ((0,), (0,)))))
        great = 10 ** 60
        self.assertTrue(takes_lists(path, short, ("tree", ((), ((0, 1, (0,), great), (0, 0, (0,), great))))))
        for paper in (("tree", tree + ([],)), ("tree", list(tree)), ("tree", ()), ("tree", ((), ((0, True, (0,), 1),)))):
            self.assertFalse(takes_lists(path, short, paper))


class Strategies(Judged):
    def test_by_chance(self):
        self.run_all(takes_strategy, strategy_holds, strategy_paper, (1, 2), chance_sets, 15, 3)

    def test_known(self):
        strand = (("fact", 0, (0, 1)), ("through", 0, 0), ("turn", 0), ("both", 1, 2))
        self.assertTrue(takes_strategy(TRIANGLE, EDGE, ("strand", strand)))
        self.assertFalse(takes_strategy(EDGE, TRIANGLE, ("strand", strand)))
        self.assertFalse(takes_strategy(TRIANGLE, full_graph(4), ("strand", strand)))
        self.assertFalse(takes_strategy(TRIANGLE, EDGE, ("strand", strand[:3])))
        same, turned = ((0, 0), (1, 1)), ((0, 1), (1, 0))
        self.assertTrue(takes_strategy(EDGE, EDGE, ("strategy", ((same, turned), (turned, same)))))
        self.assertTrue(takes_strategy(EDGE, EDGE, ("strategy", ((same[:1], turned[:1]), (turned[1:], same[1:])))))
        for sets in (((same, turned), (turned, ())), ((same, turned),), ((same, turned), (turned, same[:1])),
                     ((same, same), (same, same)), ((same, turned[::-1]), (turned, same)), (((), ()), ((), ()))):
            self.assertFalse(takes_strategy(EDGE, EDGE, ("strategy", sets)))
        self.assertTrue(takes_strategy(EMPTY, EMPTY, ("strategy", ())))
        self.assertTrue(takes_strategy(EDGE, EMPTY, ("strand", (("all",),))))


class Colours(Judged):
    def test_by_chance(self):
        self.run_all(takes_colours, colours_holds, colours_paper, (1, 2, 3), chance_colours)

    def test_even(self):
        self.run_all(takes_colours, colours_holds, even_paper, (1, 2), chance_colours, 10)

    def test_known(self):
        edge, square = full_graph(2), ring(4)
        self.assertTrue(takes_colours(square, edge, ("trees", ((),), 3)))
        for l in (2, 1, 0, -3, True, None, (3,), "3"):
            self.assertFalse(takes_colours(square, edge, ("trees", ((),), l)))
        self.assertTrue(takes_colours(square, edge, ("trees", ((),), 10 ** 60)))
        # Finer ones than the joint colouring, with other names; of unlike numbers.
        for one, two, right in (((0,) * 6, (0,) * 6, True), ((7,) * 6, (7,) * 6, True), ((7,) * 6, (6,) * 6, False),
                                ((0,) * 6, (0,) * 5, False), ((0, 1) * 3, (0, 1) * 3, False), ((-1,) * 6, (-1,) * 6, False),
                                ((10 ** 60,) * 6, (10 ** 60,) * 6, True), ((False,) * 6, (False,) * 6, False)):
            self.assertIs(takes_colours(HEXAGON, TRIANGLES, ("classes", one, two)), right)
        self.assertTrue(takes_colours(HEXAGON, HEXAGON, ("classes", (0, 1, 2) * 2, (2, 0, 1) * 2)))
        self.assertTrue(takes_colours(HEXAGON, HEXAGON, ("classes", (0, 1) * 3, (1, 0) * 3)))
        self.assertFalse(takes_colours(graph(3, []), graph(3, []), ("classes", (0, 1, 1), (0, 0, 1))))
        self.assertTrue(takes_colours(graph(3, []), graph(3, []), ("classes", (0, 1, 1), (1, 0, 1))))
        self.assertTrue(takes_colours(HEXAGON, TRIANGLES, ("even", (((1, 6),) * 6,) * 6)))
        self.assertFalse(takes_colours(HEXAGON, TRIANGLES, ("even", (((2, 12),) * 6,) * 6)))
        # Even matrices of unlike numbers of points, and for what is not binary.
        self.assertFalse(takes_colours(square, edge, ("even", (((1, 2),) * 2,) * 4)))
        self.assertFalse(takes_colours(EMPTY, edge, ("even", ())))
        dots = (2, ((3, ()),))
        self.assertFalse(takes_colours(dots, dots, ("even", (((1, 2),) * 2,) * 2)))
        self.assertTrue(takes_colours(dots, dots, ("classes", (0, 0), (0, 0))))
        self.assertTrue(takes_colours((0, ()), (0, ()), ("even", ())))
        self.assertTrue(takes_colours((0, ()), (0, ()), ("classes", (), ())))
        self.assertFalse(takes_colours((0, ()), (0, ()), ("trees", ((),), 2)))

    def test_great_numbers(self):
        # The numbers of maps of these are far too great to be written, their rests are not.
        rows = ((),) + tuple(((0, 0, (k,), 10 ** 60),) for k in range(40))
        star = graph(4, [(0, 1), (0, 2), (0, 3)])
        for l in (2, 3, 1000003, 10 ** 60 + 7):
            one, two = takes_colours(star, ring(4), ("trees", rows, l)), takes_colours(ring(4), star, ("trees", rows, l))
            self.assertIs(one, two)
            few = (sum(rest(rows, star, l)) - sum(rest(rows, ring(4), l))) % l != 0
            self.assertIs(one, few)


def rest(rows, A, l):
    """The rests of the numbers of a tree whose rows have one branch with one son, of the table 0."""
    column = [1] * A[0]
    for row in rows[1:]:
        sums = [sum(column[y] for x, y in A[1][0][1] if x == p) for p in range(A[0])]
        column = [pow(total, row[0][3], l) for total in sums]
    return column


class Pairs(Judged):
    def test_by_chance(self):
        self.run_all(takes_pairs, pairs_holds, pairs_paper, (1, 2), chance_pairs)

    def test_known(self):
        strand = (("fact", 0, (0, 1)), ("through", 0, 0), ("both", 0, 1))
        self.assertTrue(takes_pairs(HEXAGON, TRIANGLES, ("strands", strand, 7)))
        for l in (2, 3, 4, 6, 12, 1, 0, -7, True, None):
            self.assertFalse(takes_pairs(HEXAGON, TRIANGLES, ("strands", strand, l)))
        self.assertFalse(takes_pairs(HEXAGON, HEXAGON, ("strands", strand, 7)))
        self.assertTrue(takes_pairs((0, ()), (0, ()), ("pairs", ((), ()))))
        self.assertFalse(takes_pairs((0, ()), (1, ()), ("pairs", ((), ((0,),)))))
        self.assertTrue(takes_pairs((1, ()), (1, ()), ("pairs", (((5,),), ((5,),)))))
        self.assertTrue(takes_pairs((1, ()), (1, ()), ("pairs", (((-5,),), ((-5,),)))))
        self.assertFalse(takes_pairs((1, ()), (1, ()), ("pairs", (((True,),), ((True,),)))))
        self.assertFalse(takes_pairs((1, ()), (1, ()), ("pairs", ((0,), (0,)))))


class Errors(Case):
    def dots(self, n):
        return (n, ((2, ()),))

    def test_malformed(self):
        for ask in (takes_lists, takes_strategy, takes_colours, takes_pairs):
            for paper in (None, ("lists", ()), ("tree", ((),)), ("pairs", ((), ()))):
                self.malformed_pairs(ask, NO_STRUCTURES, EDGE, paper)
                self.malformed(ask, EDGE, (2, ((1, ()),)), paper)
                # Malformed goes ahead of Refused.
                self.malformed(ask, self.dots(60), (60, ((1, ()),)), paper)
        for ask in (takes_strategy, takes_pairs):
            self.malformed(ask, (60, ((3, ()),)), (60, ((3, ()),)), None)

    def test_refused(self):
        for ask, most_a, most_b in ((takes_lists, 60, 12), (takes_strategy, 12, 5), (takes_colours, 40, 40),
                                    (takes_pairs, 16, 16)):
            for paper in (None, ("lists", ()), ("trees", ((),), 3)):
                self.assertIn(ask(self.dots(most_a), self.dots(most_b), paper), (True, False))
                self.refuses("large", ask, self.dots(most_a), self.dots(most_b + 1), paper)
                if most_a < 60:
                    self.refuses("large", ask, self.dots(most_a + 1), self.dots(most_b), paper)
        full = (21, ((2, tuple((x, y) for x in range(21) for y in range(21))[:401]),))
        fits = (21, ((2, full[1][0][1][:400]),))
        for ask in (takes_lists, takes_colours):
            few = self.dots(2)
            self.assertIn(ask(fits, few, None), (True, False))
            self.refuses("large", ask, full, few, None)
            self.refuses("large", ask, few, (21, full[1]), None)


class Plain(unittest.TestCase):
    def test_numbers(self):
        # The plain judges reckon what the document tells in its examples.
        tree = ((), ((0, 0, (0,), 3),))
        self.assertEqual(sum(tree_numbers(tree, (3, ((2, ((0, 1), (0, 2), (1, 2))),)))), 9)
        strand = (("fact", 0, (0, 1)), ("through", 0, 0), ("turn", 0), ("both", 1, 2))
        self.assertEqual(strand_numbers(strand, (3, ((2, ((0, 1), (1, 2), (2, 0))),))), 3)
        self.assertEqual(plain_turned(EDGE, (1, 0)), EDGE)

    def test_examples(self):
        from probeweb.structures import graph_with
        edge, square = graph_with(2, ((0, 1),)), graph_with(4, ((0, 1), (1, 2), (2, 3), (0, 3)))
        self.assertEqual((takes_lists(square, edge, ("lists", ((0, 1), (0, 1), (0, 1), (0, 1)))),
                          takes_lists(square, edge, ("tree", ((),)))), (True, False))
        self.assertEqual((takes_colours(square, edge, ("trees", ((),), 3)), takes_colours(square, edge, ("trees", ((),), 2))),
                         (True, False))


if __name__ == "__main__":
    unittest.main()
