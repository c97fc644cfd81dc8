"""Refinement: points 6.1 to 6.5."""

import itertools
import random
import unittest
from collections import Counter
from fractions import Fraction

import brute
from brute import (
    WRONG, graph, plain_colours, plain_even, plain_signature, plain_structure, plain_tree, random_pair, ring, variants)
from cases import Case
from probeweb.refining import (
    PRIME, RowSpace, _inverse, _tell_apart, class_numbers, colour_round, even_matrix, is_even_matrix, joint_colouring,
    same_colours, stable_colouring, tree_apart)
from probeweb.structures import beside, kind_of, renumbered
from probeweb.trees import tree_number, tree_points, tree_rest, tree_rests

HEXAGON = ring(6)
TRIANGLES = graph(6, [(0, 1), (1, 2), (0, 2), (3, 4), (4, 5), (3, 5)])
EDGE = graph(2, [(0, 1)])
NO_STRUCTURES = [value for value in WRONG if not plain_structure(value)]
NOT_BINARY = (1, ((2, ()), (3, ())))


def shuffled(A, rng):
    f = list(range(A[0]))
    rng.shuffle(f)
    return renumbered(A, tuple(f))


def pairs():
    """Pairs of one kind: random ones, renumbered ones, and such with one row changed."""
    for seed in range(120):
        rng = random.Random(seed)
        A, B = random_pair(seed, most_a=5, most_b=5)
        yield A, B
        yield A, shuffled(A, rng)
        kind = brute.random_kind(rng, (1, 2, 3), 2)
        C = brute.structure(rng, kind, 6, 7)
        D = shuffled(C, rng)
        if kind and D[1][0][1]:
            rows = set(D[1][0][1][1:]) | {tuple(rng.randrange(6) for _ in range(kind[0]))}
            D = (6, ((kind[0], tuple(sorted(rows))),) + D[1][1:])
        yield C, D


PAIRS = list(pairs())


def rows(many, n, arity=3):
    return tuple(itertools.islice(itertools.product(range(n), repeat=arity), many))


class Colours(Case):
    def test_rounds(self):
        for A, B in PAIRS:
            for k in range(5):
                self.assertEqual(colour_round(A, B, k), plain_colours(A, B, k))
            last = plain_colours(A, B, A[0] + B[0])
            self.assertEqual(colour_round(A, B, 80), last)
            self.assertEqual(joint_colouring(A, B), last)
            self.assertIs(same_colours(A, B), Counter(last[0]) == Counter(last[1]))

    def test_alone(self):
        for A, _ in PAIRS:
            empty = (0, tuple((arity, ()) for arity, _ in A[1]))
            self.assertEqual(stable_colouring(A), plain_colours(A, empty, A[0])[0])

    def test_long_refinement(self):
        # The ends of a path of 40 points are seen in its middle after 20 rounds.
        path = graph(40, [(x, x + 1) for x in range(39)])
        one, two = joint_colouring(path, path)
        self.assertEqual(one, two)
        self.assertEqual(len(set(one)), 20)
        self.assertEqual(colour_round(path, path, 80), (one, two))
        self.assertEqual(len(set(colour_round(path, path, 18)[0])), 19)
        self.assertEqual(len(set(colour_round(path, path, 19)[0])), 20)

    def test_points_at_two_places(self):
        loop, edge = (2, ((2, ((0, 0),)),)), (2, ((2, ((0, 1),)),))
        self.assertEqual(colour_round(loop, edge, 1), ((2, 0), (1, 3)))
        self.assertEqual(class_numbers((1, ((3, ((0, 0, 0),)),))),
                         ((0, 0, 0, (0, 0), 1), (0, 0, 1, (0, 0), 1), (0, 0, 2, (0, 0), 1)))

    def test_edges(self):
        empty = (0, ((2, ()),))
        self.assertEqual(joint_colouring(empty, empty), ((), ()))
        self.assertEqual(stable_colouring(empty), ())
        self.assertIs(same_colours(empty, empty), True)
        self.assertIs(same_colours(empty, (1, ((2, ()),))), False)
        self.assertEqual(joint_colouring(EDGE, (3, ((2, ()),))), ((1, 1), (0, 0, 0)))
        self.assertEqual(colour_round(EDGE, (3, ((2, ()),)), 0), ((0, 0), (0, 0, 0)))
        self.assertEqual(class_numbers(empty), ())
        self.assertEqual(class_numbers((5, ((2, ()),))), ())

    def test_class_numbers(self):
        for A, _ in PAIRS:
            colours = stable_colouring(A)
            told = set()
            for x in range(A[0]):
                for triple, m in Counter(plain_signature(A, colours, x)[1]).items():
                    told.add((colours[x],) + triple + (m,))
            self.assertEqual(class_numbers(A), tuple(sorted(told)))
        self.assertEqual(class_numbers(graph(4, [(0, 1), (1, 2), (2, 3)])), (
            (0, 0, 0, (0,), 1), (0, 0, 0, (1,), 1), (0, 0, 1, (0,), 1), (0, 0, 1, (1,), 1),
            (1, 0, 0, (0,), 1), (1, 0, 1, (0,), 1)))

    def test_bounds(self):
        A = (40, ((3, rows(400, 40)),))
        self.assertIs(same_colours(A, A), True)
        self.assertEqual(stable_colouring((40, ())), (0,) * 40)
        large = ((41, ((3, ()),)), (60, ((3, rows(401, 60)),)), (40, ((3, rows(401, 40)),)))
        for B in large:
            for one, two in ((A, B), (B, A), (B, B)):
                for ask in (joint_colouring, same_colours, tree_apart):
                    self.refuses("large", ask, one, two)
                self.refuses("large", colour_round, one, two, 3)
            self.refuses("large", stable_colouring, B)
            self.refuses("large", class_numbers, B)
            for ask in (joint_colouring, same_colours, tree_apart, even_matrix):
                self.malformed(ask, B, EDGE)
        for B in ((41, ((2, ()),)), (60, ((2, rows(401, 60, 2)),))):
            self.refuses("large", even_matrix, B, EDGE)
            self.refuses("large", even_matrix, EDGE, B)
            self.refuses("large", is_even_matrix, B, EDGE, ())

    def test_malformed(self):
        for ask in (joint_colouring, same_colours, tree_apart, even_matrix):
            self.malformed_pairs(ask, NO_STRUCTURES, EDGE)
            self.malformed(ask, EDGE, (2, ((1, ()),)))
        self.malformed_pairs(colour_round, NO_STRUCTURES, EDGE, 1)
        self.malformed_pairs(is_even_matrix, NO_STRUCTURES, EDGE, ())
        for value in NO_STRUCTURES:
            self.malformed(stable_colouring, value)
            self.malformed(class_numbers, value)
        for k in (-1, 81, True, None, "1", (1,), 10 ** 60):
            self.malformed(colour_round, EDGE, EDGE, k)
            self.malformed(colour_round, (41, ()), (41, ()), k)
        self.assertEqual(colour_round(EDGE, EDGE, 80), ((0, 0), (0, 0)))

    def test_document(self):
        self.assertEqual((same_colours(HEXAGON, TRIANGLES), even_matrix(HEXAGON, TRIANGLES)[5]),
                         (True, ((1, 6), (1, 6), (1, 6), (1, 6), (1, 6), (1, 6))))
        self.assertEqual(stable_colouring(graph(4, ((0, 1), (1, 2), (2, 3)))), (1, 0, 0, 1))
        self.assertEqual(joint_colouring(EDGE, graph(3, ((0, 1), (1, 2)))), ((2, 2), (1, 0, 1)))


def is_prime(l):
    return l > 1 and all(l % d != 0 for d in range(2, int(l ** 0.5) + 1))


class Trees(Case):
    def check(self, A, B):
        told = tree_apart(A, B)
        self.assertIs(told is None, same_colours(A, B))
        if told is None:
            return 0
        tree, l = told
        self.assertTrue(plain_tree(tree, kind_of(A)))
        self.assertTrue(brute.plain_integer(l) and l > 1000000 and is_prime(l))
        self.assertNotEqual(tree_rest(tree, A, l), tree_rest(tree, B, l))
        if tree_points(tree, kind_of(A)) <= 400:
            self.assertNotEqual(tree_number(tree, A), tree_number(tree, B))
        return 1

    def test_pairs(self):
        self.assertGreater(sum(self.check(A, B) for A, B in PAIRS), 100)

    def test_unlike_numbers_of_points(self):
        for a, b in itertools.product((0, 1, 2, 40), repeat=2):
            self.assertEqual(self.check((a, ((2, ()),)), (b, ((2, ()),))), int(a != b))

    def test_tables_of_one_place(self):
        # No single row parts these classes: points in no table, in one, or in the other.
        A = (4, ((1, ((0,), (1,))), (1, ((0,), (2,)))))
        B = (4, ((1, ((0,), (1,))), (1, ((2,), (3,)))))
        self.assertEqual(self.check(A, B), 1)
        self.assertEqual(self.check(A, renumbered(A, (3, 2, 1, 0))), 0)

    def test_far_apart(self):
        # Two paths with a point hanging at another place.
        def hanging(k):
            return graph(40, [(x, x + 1) for x in range(38)] + [(k, 39)])
        for k in (5, 12, 18):
            self.assertEqual(self.check(hanging(k), hanging(k - 1)), 1)
        self.assertEqual(self.check(hanging(5), hanging(33)), 0)
        directed = [(40, ((2, tuple(sorted([(x, x + 1) for x in range(38)] + [(k, 39)]))),)) for k in (17, 18)]
        self.assertEqual(self.check(directed[0], directed[1]), 1)
        threes = [(40, ((3, tuple(sorted([(x, x + 1, x + 2) for x in range(37)] + [(k, k, 39)]))),)) for k in (17, 18)]
        self.assertEqual(self.check(threes[0], threes[1]), 1)
        self.assertEqual(self.check(threes[0], threes[0]), 0)

    def test_great_structures(self):
        rng = random.Random(9)
        for _ in range(6):
            A = brute.structure(rng, (3, 2, 1), 40, 300)
            B = shuffled(A, rng)
            self.assertEqual(self.check(A, B), 0)
            fewer = (40, ((3, B[1][0][1][1:]),) + B[1][1:])
            self.assertEqual(self.check(A, fewer), 1)

    def test_rows_and_their_columns(self):
        # The numbers that the search reckons with are those of the rows that it tells.
        told = 0
        for A, B in PAIRS:
            if A[0] == B[0] and not same_colours(A, B):
                told += 1
                rows = RowSpace(A, B)
                _tell_apart(rows, A)
                for column, one, two in zip(rows.columns, tree_rests(rows.tree(), A, PRIME), tree_rests(rows.tree(), B, PRIME)):
                    self.assertEqual(tuple(column), one + two)
                for head, line in rows.reduced:
                    self.assertEqual((line[head], any(line[:head])), (1, False))
        self.assertGreater(told, 40)
        for a in list(range(1, 200)) + [PRIME - 1, PRIME // 2]:
            self.assertEqual(a * _inverse(a) % PRIME, 1)
            self.assertEqual(_inverse(a), pow(a, -1, PRIME))

    def test_same_colours(self):
        self.assertEqual(self.check(HEXAGON, TRIANGLES), 0)
        self.assertEqual(self.check(beside(HEXAGON, EDGE), beside(EDGE, TRIANGLES)), 0)
        self.assertEqual(self.check(HEXAGON, graph(6, [(0, 1), (1, 2), (0, 2)])), 1)


class Even(Case):
    def binary_pairs(self):
        for seed in range(150):
            rng = random.Random(seed)
            kind = brute.random_kind(rng, (1, 2), 3)
            A = brute.structure(rng, kind, rng.randint(0, 4), 6)
            yield A, shuffled(A, rng)
            yield A, brute.structure(rng, kind, A[0], 6)
        yield HEXAGON, TRIANGLES
        yield beside(HEXAGON, EDGE), beside(EDGE, TRIANGLES)

    def test_told_by_the_classes(self):
        seen = Counter()
        for A, B in self.binary_pairs():
            told = even_matrix(A, B)
            one, two = joint_colouring(A, B)
            seen[told is None] += 1
            self.assertIs(told is None, not same_colours(A, B))
            if told is not None:
                self.assertTrue(plain_even(A, B, told))
                self.assertIs(is_even_matrix(A, B, told), True)
                for x, y in itertools.product(range(A[0]), repeat=2):
                    self.assertEqual(Fraction(*told[x][y]), Fraction(one[x] == two[y], one.count(one[x])))
        self.assertGreater(min(seen[True], seen[False]), 50)

    def test_renumbering_is_even(self):
        for seed in range(60):
            rng = random.Random(seed)
            A = brute.structure(rng, (2, 1), 4, 6)
            f = list(range(4))
            rng.shuffle(f)
            B = renumbered(A, tuple(f))
            value = tuple(tuple((int(f[x] == y), 1) for y in range(4)) for x in range(4))
            self.assertIs(is_even_matrix(A, B, value), True)
            other = value[1:] + value[:1]
            self.assertIs(is_even_matrix(A, B, other), plain_even(A, B, other))

    def test_bent_matrices(self):
        A = (3, ((2, ((0, 1), (1, 0), (2, 2))), (1, ((2,),))))
        value = (((1, 2), (1, 2), (0, 1)), ((1, 2), (1, 2), (0, 1)), ((0, 1), (0, 1), (1, 1)))
        self.assertIs(is_even_matrix(A, A, value), True)
        fractions = ((0, 1), (1, 1), (1, 3), (-1, 2), (3, 2), (2, 4), [1, 2], (True, 1), (1, 0))
        for other in itertools.chain(variants(value), variants(value, fractions), WRONG):
            self.assertIs(is_even_matrix(A, A, other), plain_even(A, A, other), other)

    def test_sums_and_products(self):
        # Right sums, and yet not even: each condition breaks one of these.
        half, one, no = (1, 2), (1, 1), (0, 1)
        mixed = ((half, half), (half, half))
        for A, B in (((2, ((1, ((0,),)),)), (2, ((1, ((0,),)),))), ((2, ((2, ((0, 0),)),)), (2, ((2, ((0, 0),)),))),
                     ((2, ((2, ((0, 1),)),)), (2, ((2, ((0, 1),)),))), ((2, ((2, ((0, 0), (1, 0))),)), (2, ((2, ((0, 0), (1, 0))),)))):
            self.assertIs(is_even_matrix(A, B, mixed), False)
            self.assertIs(is_even_matrix(A, B, ((one, no), (no, one))), True)
            self.assertIs(is_even_matrix(A, B, ((no, one), (one, no))), plain_even(A, B, ((no, one), (one, no))))
        dots = (2, ((2, ()),))
        self.assertIs(is_even_matrix(dots, dots, mixed), True)
        for value in (((one, no), (one, no)), ((half, half), (half, no)), ((no, no), (no, no)),
                      (((3, 2), (-1, 2)), ((-1, 2), (3, 2))), ((half, half),), ((one,), (one,))):
            self.assertIs(is_even_matrix(dots, dots, value), False)
        less = (-1, 1)
        self.assertIs(is_even_matrix((3, ()), (3, ()), ((one, one, less), (less, one, one), (one, less, one))), False)
        # Here one of the products is right, and the one with the turned matrices is not; then the other way.
        out, into = (2, ((2, ((0, 0), (0, 1))),)), (2, ((2, ((0, 0), (1, 0))),))
        self.assertIs(is_even_matrix(into, out, mixed), False)
        self.assertIs(is_even_matrix(out, into, mixed), False)

    def test_edges(self):
        empty = (0, ((2, ()),))
        self.assertEqual(even_matrix(empty, empty), ())
        self.assertIs(is_even_matrix(empty, empty, ()), True)
        self.assertIs(is_even_matrix(empty, EDGE, ()), False)
        self.assertIsNone(even_matrix(EDGE, (3, ((2, ()),))))
        self.assertIs(is_even_matrix(EDGE, (3, ((2, ()),)), (((1, 1),) * 3,) * 2), False)
        self.assertEqual(len(even_matrix((40, ((2, ()),)), (40, ((2, ()),)))), 40)
        for ask in (even_matrix, lambda A, B: is_even_matrix(A, B, ())):
            self.malformed(ask, NOT_BINARY, NOT_BINARY)
            self.malformed(ask, (41, ((3, ()),)), (41, ((3, ()),)))


if __name__ == "__main__":
    unittest.main()
