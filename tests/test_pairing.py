"""Colours of pairs and the strands that tell them: points 7.1 to 7.5."""

import itertools
import random
from collections import Counter

import brute
from brute import WRONG, graph, plain_strand, plain_structure, ring, variants
from cases import Case
from plain import (
    ROOK, SHRIKHANDE, is_prime, plain_pair_colouring, plain_pair_signature, plain_pairs, plain_stable_pairs, shuffled)
from probeweb.pairing import (
    PRIME, StrandMaker, _powers, is_pair_colouring, joint_pairs, pair_colouring, pair_numbers, pair_round, same_pairs,
    strand_apart, trimmed_strand)
from probeweb.refining import same_colours
from probeweb.strands import strand_number, strand_points, strand_rest, strand_rests
from probeweb.structures import beside, kind_of

HEXAGON = ring(6)
TRIANGLES = graph(6, [(0, 1), (1, 2), (0, 2), (3, 4), (4, 5), (3, 5)])
EDGE = graph(2, [(0, 1)])
NO_STRUCTURES = [value for value in WRONG if not plain_structure(value)]
NOT_BINARY = (1, ((2, ()), (3, ())))


def rings(*sizes):
    made = ring(sizes[0]) if sizes[0] > 2 else graph(sizes[0], [])
    for size in sizes[1:]:
        made = beside(made, ring(size))
    return made


def pairs():
    for seed in range(150):
        rng = random.Random(seed)
        kind = brute.random_kind(rng, (1, 2), 3)
        n = rng.randint(0, 5)
        A = brute.structure(rng, kind, n, 7)
        yield A, brute.structure(rng, kind, rng.choice((n, n, rng.randint(0, 5))), 7)
        yield A, shuffled(A, rng)
    yield HEXAGON, TRIANGLES


PAIRS = list(pairs())


class Colours(Case):
    def test_rounds(self):
        for A, B in PAIRS:
            for k in range(4):
                self.assertEqual(pair_round(A, B, k), plain_pairs(A, B, k))
            stable = plain_stable_pairs(A, B)
            self.assertEqual(joint_pairs(A, B), stable)
            self.assertEqual(pair_round(A, B, 256), stable)
            counts = [Counter(told for row in table for told in row) for table in stable]
            self.assertIs(same_pairs(A, B), counts[0] == counts[1])

    def test_alone(self):
        for A, _ in PAIRS:
            empty = (0, tuple((arity, ()) for arity, _ in A[1]))
            table = plain_stable_pairs(A, empty)[0]
            self.assertEqual(pair_colouring(A), table)
            told = set()
            for x, y in itertools.product(range(A[0]), repeat=2):
                for (d, e), m in Counter(plain_pair_signature(table, x, y)[1]).items():
                    told.add((table[x][y], d, e, m))
            self.assertEqual(pair_numbers(A), tuple(sorted(told)))

    def test_edges(self):
        empty, one = (0, ((2, ()),)), (1, ((2, ()),))
        self.assertEqual(joint_pairs(empty, empty), ((), ()))
        self.assertEqual(pair_round(empty, one, 0), ((), ((0,),)))
        self.assertEqual((pair_colouring(empty), pair_numbers(empty)), ((), ()))
        self.assertIs(same_pairs(empty, empty), True)
        self.assertIs(same_pairs(empty, one), False)
        self.assertIs(same_pairs((2, ()), (3, ())), False)
        self.assertEqual(pair_colouring((3, ())), ((1, 0, 0), (0, 1, 0), (0, 0, 1)))
        loop = (2, ((2, ((0, 0),)), (1, ((1,),))))
        self.assertEqual(pair_round(loop, loop, 0), plain_pairs(loop, loop, 0))

    def test_told_facts(self):
        # Points 7.3 and 7.5.
        for A, B in PAIRS[::5]:
            one, two = joint_pairs(A, B)
            turned = {}
            for table in (one, two):
                for x, y in itertools.product(range(len(table)), repeat=2):
                    self.assertEqual(turned.setdefault(table[x][y], table[y][x]), table[y][x])
            if same_pairs(A, B):
                self.assertTrue(same_colours(A, B))
        self.assertIs(same_colours(HEXAGON, TRIANGLES), True)
        self.assertIs(same_pairs(ROOK, SHRIKHANDE), True)
        self.assertIsNone(strand_apart(ROOK, SHRIKHANDE))

    def test_long_refinement(self):
        # The ends of a path of 16 points are seen in its middle after some rounds.
        path = graph(16, [(x, x + 1) for x in range(15)])
        self.assertEqual(joint_pairs(path, path), plain_stable_pairs(path, path))
        told = [pair_round(path, path, k) for k in range(5)]
        self.assertEqual(told, [plain_pairs(path, path, k) for k in range(5)])
        self.assertEqual(len(set(told)), 4)

    def test_bounds(self):
        A = (16, ((2, ((0, 1),)),))
        self.assertIs(same_pairs(A, A), True)
        large = (17, ((2, ()),))
        for one, two in ((A, large), (large, A), (large, large)):
            for ask in (joint_pairs, same_pairs, strand_apart):
                self.refuses("large", ask, one, two)
            self.refuses("large", pair_round, one, two, 0)
            self.refuses("large", is_pair_colouring, one, two, ((), ()))
        self.refuses("large", pair_colouring, large)
        self.refuses("large", pair_numbers, large)
        for ask in (joint_pairs, same_pairs, strand_apart):
            self.malformed(ask, large, (17, ((1, ()),)))
            self.malformed(ask, (17, ((3, ()),)), (17, ((3, ()),)))
        self.malformed(pair_colouring, (17, ((3, ()),)))

    def test_malformed(self):
        for ask in (joint_pairs, same_pairs, strand_apart):
            self.malformed_pairs(ask, NO_STRUCTURES + [NOT_BINARY], EDGE)
            self.malformed(ask, EDGE, (2, ((1, ()),)))
        self.malformed_pairs(pair_round, NO_STRUCTURES + [NOT_BINARY], EDGE, 1)
        self.malformed_pairs(is_pair_colouring, NO_STRUCTURES + [NOT_BINARY], EDGE, ())
        for value in NO_STRUCTURES + [NOT_BINARY]:
            self.malformed(pair_colouring, value)
            self.malformed(pair_numbers, value)
        for k in (-1, 257, True, None, "1", (1,), 10 ** 60):
            self.malformed(pair_round, EDGE, EDGE, k)
            self.malformed(pair_round, (17, ()), (17, ()), k)
        self.assertEqual(pair_round(EDGE, EDGE, 256), pair_round(EDGE, EDGE, 0))

    def test_document(self):
        self.assertEqual((same_pairs(HEXAGON, TRIANGLES), same_pairs(HEXAGON, HEXAGON)), (False, True))
        self.assertEqual(pair_colouring(EDGE), ((1, 0), (0, 1)))
        self.assertEqual(pair_numbers(EDGE), ((0, 0, 1, 1), (0, 1, 0, 1), (1, 0, 0, 1), (1, 1, 1, 1)))
        table = pair_colouring(ring(5))
        self.assertEqual(len({told for row in table for told in row}), 3)
        beside_one = {m for c, d, e, m in pair_numbers(ring(5)) if c == d == e == table[0][1]}
        self.assertEqual(beside_one, set())
        self.assertIn((table[0][2], table[0][1], table[0][1], 1), pair_numbers(ring(5)))


class Judged(Case):
    def test_stable_colours(self):
        for A, B in PAIRS:
            self.assertIs(is_pair_colouring(A, B, joint_pairs(A, B)), same_pairs(A, B))

    def test_renamed_and_finer(self):
        table = pair_colouring(HEXAGON)
        renamed = tuple(tuple(-7 * told - 10 ** 30 for told in row) for row in table)
        self.assertIs(is_pair_colouring(HEXAGON, HEXAGON, (renamed, renamed)), True)
        finer = tuple(tuple(6 * x + y for y in range(6)) for x in range(6))
        self.assertIs(is_pair_colouring(HEXAGON, HEXAGON, (finer, finer)), True)
        coarser = tuple(tuple(int(x == y) for y in range(6)) for x in range(6))
        self.assertIs(is_pair_colouring(HEXAGON, HEXAGON, (coarser, coarser)), False)
        self.assertIs(is_pair_colouring(HEXAGON, TRIANGLES, (coarser, coarser)), False)
        # One colour for pairs of unlike kinds, and equal kinds with unlike numbers of points between them.
        first = pair_round(HEXAGON, TRIANGLES, 0)
        self.assertIs(is_pair_colouring(HEXAGON, TRIANGLES, first), False)
        dots = (2, ((2, ()),))
        self.assertIs(is_pair_colouring(dots, dots, (((0, 0), (0, 0)), ((0, 0), (0, 0)))), False)
        self.assertIs(is_pair_colouring(dots, dots, (((0, 1), (1, 0)), ((0, 1), (1, 0)))), True)
        # The turned pairs need not have one colour, and points may be told apart.
        self.assertIs(is_pair_colouring(dots, dots, (((0, 1), (2, 3)), ((0, 1), (2, 3)))), True)
        self.assertIs(is_pair_colouring(dots, dots, (((0, 1), (2, 3)), ((3, 2), (1, 0)))), True)

    def test_unlike_counts(self):
        # All pairs of one colour are alike, and yet a colour stands in one table alone.
        one = (1, ((1, ((0,),)),))
        other = (1, ((1, ()),))
        self.assertIs(is_pair_colouring(one, other, (((0,),), ((1,),))), False)
        self.assertIs(is_pair_colouring(one, one, (((0,),), ((1,),))), False)
        self.assertIs(is_pair_colouring(one, one, (((5,),), ((5,),))), True)
        self.assertIs(is_pair_colouring(one, other, (((5,),), ((5,),))), False)

    def test_bent_tables(self):
        A = (2, ((2, ((0, 1), (1, 0))),))
        told = (((1, 0), (0, 1)), ((1, 0), (0, 1)))
        for other in itertools.chain(variants(told), WRONG):
            self.assertIs(is_pair_colouring(A, A, other), plain_pair_colouring(A, A, other), other)
        # Tables whose rows are longer, or which have more rows, and which are right but for this.
        wide = tuple(row + (5,) for row in told[0])
        self.assertIs(is_pair_colouring(A, A, (wide, wide)), False)
        self.assertIs(is_pair_colouring(A, A, (told[0] + ((5, 5),),) * 2), False)
        for seed in range(60):
            rng = random.Random(seed)
            A = brute.structure(rng, (2,), 3, 4)
            value = tuple(tuple(tuple(rng.randrange(4) for _ in range(3)) for _ in range(3)) for _ in range(2))
            self.assertIs(is_pair_colouring(A, A, value), plain_pair_colouring(A, A, value))
            self.assertIs(is_pair_colouring(A, A, (value[0],) * 2), plain_pair_colouring(A, A, (value[0],) * 2))
        empty = (0, ((2, ()),))
        self.assertIs(is_pair_colouring(empty, empty, ((), ())), True)
        self.assertIs(is_pair_colouring(empty, A, ((), ())), False)


class Strands(Case):
    def check(self, A, B):
        told = strand_apart(A, B)
        self.assertIs(told is None, same_pairs(A, B))
        if told is None:
            return 0
        strand, l = told
        self.assertTrue(plain_strand(strand, kind_of(A)))
        self.assertTrue(brute.plain_integer(l) and l > 1000000 and is_prime(l))
        self.assertNotEqual(strand_rest(strand, A, l), strand_rest(strand, B, l))
        if strand_points(strand, kind_of(A)) <= 400:
            self.assertNotEqual(strand_number(strand, A), strand_number(strand, B))
        return 1

    def test_pairs(self):
        self.assertGreater(sum(self.check(A, B) for A, B in PAIRS), 60)

    def test_rings(self):
        for one, two in (((6,), (3, 3)), ((16,), (8, 8)), ((7, 9), (8, 8)), ((3, 13), (4, 12)), ((5, 5, 6), (5, 11))):
            self.assertEqual(self.check(rings(*one), rings(*two)), 1)
        for a, b in itertools.product((0, 1, 2, 16), repeat=2):
            self.assertEqual(self.check((a, ((2, ()),)), (b, ((2, ()),))), int(a != b))
            self.assertEqual(self.check((a, ()), (b, ())), int(a != b))

    def test_far_apart(self):
        def hanging(k):
            return graph(16, [(x, x + 1) for x in range(14)] + [(k, 15)])
        for k in (3, 5, 7):
            self.assertEqual(self.check(hanging(k), hanging(k - 1)), 1)
        self.assertEqual(self.check(hanging(5), hanging(9)), 0)
        directed = [(16, ((2, tuple(sorted([(x, x + 1) for x in range(14)] + [(k, 15)]))),)) for k in (7, 8)]
        self.assertEqual(self.check(directed[0], directed[1]), 1)

    def test_great_structures(self):
        rng = random.Random(4)
        for _ in range(6):
            A = brute.structure(rng, (2, 1, 2), 16, 60)
            self.assertEqual(self.check(A, shuffled(A, rng)), 0)
            fewer = (16, ((2, A[1][0][1][1:]),) + A[1][1:])
            self.assertEqual(self.check(A, fewer), 1)

    def test_columns_of_the_search(self):
        # The numbers that the search reckons with are those of the rows that it tells.
        A, B = rings(3, 13), rings(4, 12)
        maker = StrandMaker(A, B)
        while maker.part_further():
            pass
        rows = tuple(maker.rows)
        one, two = strand_rests(rows, A, PRIME), strand_rests(rows, B, PRIME)
        for number, column in maker.parting:
            self.assertEqual(column, [a for table in (one, two) for line in table[number] for a in line])
        self.assertGreater(len(maker.parting), 2)

    def test_products_of_the_search(self):
        for seed in range(40):
            rng = random.Random(seed)
            A = brute.structure(rng, (2, 1), rng.randint(0, 4), 7)
            B = brute.structure(rng, (2, 1), rng.randint(0, 4), 7)
            maker = StrandMaker(A, B)
            for _ in range(2):
                maker.part_further()
            for _ in range(6):
                exponents = [rng.choice((0, 0, 1, 2, 3, 4, 5, 6, 7)) for _ in maker.parting]
                end = maker.product_row(exponents)
                column = maker.product_column(exponents)
                rows = tuple(maker.rows)
                self.assertTrue(plain_strand(rows, kind_of(A)))
                for strand, at in ((rows, end), (trimmed_strand(maker.rows, end), -1)):
                    tables = strand_rests(strand, A, PRIME)[at], strand_rests(strand, B, PRIME)[at]
                    self.assertEqual(column, [a for table in tables for line in table for a in line])
            # Without exponents above 0 the product is the row of all pairs.
            self.assertEqual(maker.rows[maker.product_row([0] * len(maker.parting))], ("all",))

    def test_exponents(self):
        # Only the power 2 of the column tells these weights: the sums with 0 and 1 are 0.
        exponents = _powers([1, -2, 1], [[1, 2, 3]])
        self.assertEqual(exponents, [2])
        self.assertEqual(_powers([1, -1], [[5, 5], [0, 4]]), [0, 1])
        self.assertEqual(_powers([1, -1, -1, 1], [[0, 0, 1, 1], [0, 1, 0, 1]]), [1, 1])
        self.assertEqual(_powers([1, 1], []), [])

    def test_trimmed(self):
        rows = [("same",), ("all",), ("fact", 0, (0, 1)), ("turn", 2), ("both", 3, 1), ("through", 2, 2)]
        self.assertEqual(trimmed_strand(rows, 4), (("all",), ("fact", 0, (0, 1)), ("turn", 1), ("both", 2, 0)))
        self.assertEqual(trimmed_strand(rows, 5), (("fact", 0, (0, 1)), ("through", 0, 0)))
        self.assertEqual(trimmed_strand(rows, 0), (("same",),))


if __name__ == "__main__":
    import unittest
    unittest.main()
