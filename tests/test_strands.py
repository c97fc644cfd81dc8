"""Strands: points 4.4 to 4.6."""

import random
import unittest

import brute
from brute import WRONG, plain_maps, plain_strand, plain_structure, random_strand, strand_structure, variants
from cases import Case
from probeweb.strands import (
    is_strand, strand_number, strand_points, strand_reaches, strand_rest, strand_rests, strand_unfolded)

KIND = (2, 1)
STRAND = (("fact", 0, (0, 1)), ("fact", 1, (1,)), ("same",), ("through", 0, 0), ("turn", 1), ("both", 3, 4))
A3 = (3, ((2, ((0, 1), (1, 1), (2, 0))), (1, ((0,), (1,)))))
ALL = (("all",),)
WHEEL = (3, ((2, ((0, 1), (1, 2), (2, 0))),))
NO_BINARIES = [value for value in WRONG if not plain_structure(value)] + [(0, ((3, ()),)), (1, ((2, ()), (3, ())))]


def strands(seeds, most_points=6):
    """Random strands with a binary structure, of few points."""
    for seed in seeds:
        rng = random.Random(seed)
        kind = brute.random_kind(rng, (1, 2), 2)
        strand = random_strand(rng, kind, rng.randint(1, 6))
        A = brute.structure(rng, kind, rng.randint(0, 3), 6)
        if strand_structure(strand, kind)[0][0] <= most_points:
            yield strand, kind, A


class Forms(Case):
    def test_strands(self):
        for strand in (ALL, (("same",),), STRAND, (("fact", 0, (0, 0)),), (("fact", 1, (0,)),), ALL * 3):
            self.assertIs(is_strand(strand, KIND), True)
        self.assertIs(is_strand(ALL, ()), True)

    def test_no_strands(self):
        for strand in ((), (("all", 0),), (("none",),), (("turn", 0),), ALL + (("turn", 1),), ALL + (("turn", -1),),
                       ALL + (("both", 0),), ALL + (("both", 0, 0, 0),), ALL + (("through", 0, 1),), ALL + (("turn",),),
                       (("fact", 0, (0,)),), (("fact", 1, (0, 1)),), (("fact", 2, (0, 1)),), (("fact", -1, (0, 1)),),
                       (("fact", 0, (0, 2)),), (("fact", 0, [0, 1]),), (("fact", 0, (False, True)),), (("fact", 0),),
                       (("fact", False, (0, 1)),), ALL + (("turn", False),), [("all",)], (["all"],), (("same", 0),),
                       ALL + (("both", 0, True),), ((),), (("",),), (("fact", 0, (0, 1), 0),), ((0,),), (("all", "all"),)):
            self.assertIs(is_strand(strand, KIND), False, strand)
        for value in WRONG:
            self.assertIs(is_strand(value, KIND), plain_strand(value, KIND), value)

    def test_variants(self):
        for other in variants(STRAND, (None, True, False, "turn", "both", "all", -1, 0, 1, 2, (), [], 10 ** 60)):
            self.assertIs(is_strand(other, KIND), plain_strand(other, KIND), other)

    def test_malformed(self):
        for strand in list(variants(STRAND)) + list(WRONG):
            if not plain_strand(strand, KIND):
                self.malformed(strand_points, strand, KIND)
                self.malformed(strand_unfolded, strand, KIND)
                self.malformed(strand_rests, strand, A3, 5)
                self.malformed(strand_rest, strand, A3, 5)
                self.malformed(strand_number, strand, A3)
                self.malformed(strand_reaches, strand, A3)
        for A in NO_BINARIES:
            self.malformed(strand_rests, ALL, A, 5)
            self.malformed(strand_rest, ALL, A, 5)
            self.malformed(strand_number, ALL, A)
            self.malformed(strand_reaches, ALL, A)
        for modulus in (0, -1, True, None, "1", (1,), -10 ** 60):
            self.malformed(strand_rests, STRAND, A3, modulus)
            self.malformed(strand_rest, STRAND, A3, modulus)

    def test_no_kinds(self):
        for kind in [value for value in WRONG if value != ()] + [(3,), (2, 3), (0,), (2,) * 7, [2], (True,), ("2",)]:
            self.malformed(is_strand, ALL, kind)
            self.malformed(strand_points, ALL, kind)
            self.malformed(strand_unfolded, ALL, kind)
        self.assertIs(is_strand(ALL, (2,) * 6), True)


def open_numbers(probe, x, y, A):
    """The numbers of the maps of the probe by the values of its open points."""
    counts = [[0] * A[0] for _ in range(A[0])]
    for f in plain_maps(probe, A):
        counts[f[x]][f[y]] += 1
    return counts


class Numbers(Case):
    def test_against_structures(self):
        seen = 0
        for strand, kind, A in strands(range(400)):
            seen += 1
            probe = strand_structure(strand, kind)[0]
            number = len(plain_maps(probe, A))
            self.assertEqual(strand_points(strand, kind), probe[0])
            self.assertEqual(strand_number(strand, A), number)
            for modulus in (1, 2, 7, 10 ** 30):
                self.assertEqual(strand_rest(strand, A, modulus), number % modulus)
        self.assertGreater(seen, 300)

    def test_rows_against_structures(self):
        for strand, kind, A in strands(range(150)):
            rests = strand_rests(strand, A, 5)
            reaches = strand_reaches(strand, A)
            self.assertEqual((len(rests), len(reaches)), (len(strand), len(strand)))
            for i in range(len(strand)):
                probe, x, y = strand_structure(strand, kind, i)
                if probe[0] <= 6:
                    told = open_numbers(probe, x, y, A)
                    self.assertEqual(rests[i], tuple(tuple(number % 5 for number in line) for line in told))
                    points = range(A[0])
                    self.assertEqual(reaches[i], tuple((a, b) for a in points for b in points if told[a][b] > 0))

    def test_unfolded(self):
        # The same up to numbers: as many points and facts, and as many maps both ways that are one to one.
        for strand, kind, A in strands(range(300)):
            told = strand_unfolded(strand, kind)
            probe = strand_structure(strand, kind)[0]
            self.assertTrue(plain_structure(told))
            self.assertEqual([arity for arity, _ in told[1]], list(kind))
            self.assertEqual((told[0], [len(rows) for _, rows in told[1]]),
                             (probe[0], [len(rows) for _, rows in probe[1]]))
            self.assertTrue(any(len(set(f)) == told[0] for f in plain_maps(told, probe)))

    def test_single_rows(self):
        A = (2, ((2, ((0, 0), (0, 1))), (1, ((1,),))))
        for row, told in ((("all",), ((1, 1), (1, 1))), (("same",), ((1, 0), (0, 1))),
                          (("fact", 0, (0, 1)), ((1, 1), (0, 0))), (("fact", 0, (1, 0)), ((1, 0), (1, 0))),
                          (("fact", 0, (0, 0)), ((1, 1), (0, 0))), (("fact", 0, (1, 1)), ((1, 0), (1, 0))),
                          (("fact", 1, (0,)), ((0, 0), (1, 1))), (("fact", 1, (1,)), ((0, 1), (0, 1)))):
            self.assertEqual(strand_rests((row,), A, 9), (told,))
            self.assertEqual(strand_points((row,), (2, 1)), 1 if row == ("same",) else 2)
        self.assertEqual(strand_unfolded((("fact", 0, (0, 0)),), (2, 1)), (2, ((2, ((0, 0),)), (1, ()))))
        self.assertEqual(strand_rests(ALL, A, 1), (((0, 0), (0, 0)),))
        self.assertEqual(strand_reaches(ALL, (0, ())), ((),))
        self.assertEqual(strand_number(ALL, (0, ())), 0)
        self.assertEqual(strand_number(ALL, (60, ())), 3600)

    def test_points_that_fall_together(self):
        fact, same = ("fact", 0, (0, 1)), ("same",)
        for rows, points, table in (
                ((fact, same, ("both", 0, 1)), 1, ((0, 0),)), ((fact, same, ("through", 0, 1)), 2, ((0, 1),)),
                ((fact, same, ("through", 1, 0)), 2, ((0, 1),)), ((same, same, ("through", 0, 1)), 1, ()),
                ((same, same, ("both", 0, 1)), 1, ()), ((same, ("turn", 0)), 1, ()), ((fact, ("turn", 0)), 2, ((1, 0),)),
                ((fact, fact, ("both", 0, 1)), 2, ((0, 1),)), ((fact, ("turn", 0), ("both", 0, 1)), 2, ((0, 1), (1, 0))),
                ((fact, same, ("both", 0, 1), ("through", 2, 0)), 2, ((0, 0), (0, 1))),
                ((fact, same, ("both", 0, 1), ("through", 0, 2)), 2, ((0, 1), (1, 1))),
                ((fact, same, ("both", 0, 1), ("turn", 2)), 1, ((0, 0),)),
                ((fact, same, ("both", 0, 1), ("both", 2, 0)), 1, ((0, 0),)),
                ((fact, same, ("both", 1, 0), ("through", 2, 0)), 2, ((0, 0), (0, 1))),
                ((fact, same, ("through", 0, 1), ("both", 2, 0)), 2, ((0, 1),)),
                ((fact, same, ("through", 1, 0), ("both", 2, 0)), 2, ((0, 1),)),
                ((fact, same, ("both", 0, 1), ("through", 2, 2), ("both", 3, 0)), 1, ((0, 0),)),
                ((fact, same, ("through", 1, 1), ("turn", 2), ("both", 0, 3)), 1, ((0, 0),)),
                ((fact, same, ("both", 0, 1), ("through", 2, 2), ("through", 3, 0)), 2, ((0, 0), (0, 1))),
                ((fact, same, ("both", 0, 1), ("turn", 2), ("through", 0, 3)), 2, ((0, 1), (1, 1)))):
            self.assertEqual(strand_points(rows, (2,)), points)
            self.assertEqual(strand_unfolded(rows, (2,)), (points, ((2, table),)))

    def test_doubled(self):
        # Each row doubles the inner points of the row before.
        strand = (("fact", 0, (0, 1)), ("through", 0, 0)) + tuple(("both", i, i) for i in range(1, 300))
        self.assertEqual(strand_points(strand, (2,)), 2 + 2 ** 299)
        A = (2, ((2, ((0, 0), (0, 1), (1, 0))),))
        number = ((2, 1), (1, 1))
        for _ in range(299):
            number = tuple(tuple(a * a % 1000003 for a in line) for line in number)
        self.assertEqual(strand_rests(strand, A, 1000003)[-1], number)
        self.assertEqual(strand_reaches(strand, A)[-1], ((0, 0), (0, 1), (1, 0), (1, 1)))
        self.refuses("large", strand_number, strand, A)
        self.refuses("large", strand_unfolded, strand, (2,))

    def test_doubled_without_inner_points(self):
        strand = (("fact", 0, (0, 1)),) + tuple(("both", i, i) for i in range(400))
        self.assertEqual(strand_points(strand, (2,)), 2)
        self.assertEqual(strand_number(strand, WHEEL), 3)
        self.assertEqual(strand_unfolded(strand, (2,)), (2, ((2, ((0, 1),)),)))
        turned = (("fact", 0, (0, 1)),) + tuple(("turn", i) for i in range(999))
        self.assertEqual(strand_unfolded(turned, (2,)), (2, ((2, ((1, 0),)),)))

    def test_rows_that_do_not_count(self):
        strand = (("fact", 0, (0, 1)), ("through", 0, 0)) + tuple(("both", i, i) for i in range(1, 100))
        strand += (("turn", 0),)
        A = (2, ((2, ((0, 0), (0, 1), (1, 0))),))
        self.assertEqual(strand_points(strand, (2,)), 2)
        self.assertEqual(strand_number(strand, A), 3)
        self.assertEqual(strand_unfolded(strand, (2,)), (2, ((2, ((1, 0),)),)))

    def test_bounds(self):
        path = [("fact", 0, (0, 1))]
        for _ in range(400):
            path.append(("through", len(path) - 1, 0))
        loop = (1, ((2, ((0, 0),)),))
        self.assertEqual(strand_points(tuple(path[:399]), (2,)), 400)
        self.assertEqual(strand_number(tuple(path[:399]), loop), 1)
        self.assertEqual(strand_number(tuple(path[:399]), (2, ((2, ((0, 0), (0, 1), (1, 0), (1, 1))),))), 2 ** 400)
        self.refuses("large", strand_number, tuple(path[:400]), loop)
        self.assertEqual(strand_points(tuple(path[:59]), (2,)), 60)
        told = strand_unfolded(tuple(path[:59]), (2,))
        self.assertEqual((told[0], len(told[1][0][1])), (60, 59))
        self.refuses("large", strand_unfolded, tuple(path[:60]), (2,))

    def test_document(self):
        strand = (("fact", 0, (0, 1)), ("through", 0, 0), ("turn", 0), ("both", 1, 2))
        self.assertEqual((strand_points(strand, (2,)), strand_number(strand, WHEEL), strand_reaches(strand, WHEEL)[3]),
                         (3, 3, ((0, 2), (1, 0), (2, 1))))
        self.assertEqual((strand_number(strand, (1, ((2, ((0, 0),)),))), strand_number((("same",),), WHEEL)), (1, 3))
        hexagon, triangles = brute.ring(6), brute.graph(6, [(0, 1), (1, 2), (0, 2), (3, 4), (4, 5), (3, 5)])
        self.assertEqual((strand_number(strand, hexagon), strand_number(strand, triangles)), (0, 12))


if __name__ == "__main__":
    unittest.main()
