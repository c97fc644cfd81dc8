"""Planes and cuttings: points 5.7 to 5.9."""

import itertools
import unittest

import brute
from brute import (
    WRONG, directed_path, full_graph, hom, plain_cutting, plain_maps, plain_refutation, plain_structure, random_pair,
    variants)
from cases import Case
from probeweb.cuttings import cutting_from, ending_plane
from probeweb.refutations import case_refutation, slim_refutation, span_refutation

EDGE, TRIANGLE = full_graph(2), full_graph(3)
NO_STRUCTURES = [value for value in WRONG if not plain_structure(value)]
PAIRS = [random_pair(seed) for seed in range(200)] + [random_pair(seed, rows_a=8, rows_b=5) for seed in range(100)]
PAIRS += [random_pair(seed, arities=(2, 3), most_b=3, rows_b=4) for seed in range(100)]
SOME0 = (((((0, 0), 1), ((0, 1), 1)), 1), ("some", 0))
SOME1 = (((((1, 0), 1), ((1, 1), 1)), 1), ("some", 1))
LEAST = (((((0, 1), 1),), 0), ("least", 0, 1))
MOST = (((((1, 0), -1),), -1), ("most", 1, 0))
FACT = (((((0, 1), -1), ((1, 1), -1)), -1), ("fact", 0, 0, (1, 1)))


class Checking(Case):
    def test_each_reason(self):
        for row in (SOME0, SOME1, LEAST, MOST, FACT):
            self.assertEqual(ending_plane(EDGE, EDGE, (row,)), row[0])
        added = ((((0, 0), 2), ((0, 1), 1), ((1, 1), -1)), 1)
        self.assertEqual(ending_plane(EDGE, EDGE, (SOME0, FACT, (added, ("sum", ((0, 2), (1, 1)))))), added)
        self.assertEqual(ending_plane(EDGE, EDGE, (SOME0, FACT, (added, ("sum", ((1, 1), (0, 2)))))), None)
        doubled = ((((0, 0), 2), ((0, 1), 2)), 2)
        self.assertEqual(ending_plane(EDGE, EDGE, (SOME0, (doubled, ("sum", ((0, 2),))))), doubled)
        rows = (SOME0, (doubled, ("sum", ((0, 2),))), (SOME0[0], ("cut", 1, 2)))
        self.assertEqual(ending_plane(EDGE, EDGE, rows), SOME0[0])

    def test_rounding(self):
        # Three times a plane with the bound -1: the bound is -3, and cut by 3 it is -1 again.
        tripled = (((((1, 0), -3),), -3), ("sum", ((0, 3),)))
        self.assertEqual(ending_plane(EDGE, EDGE, (MOST, tripled, (MOST[0], ("cut", 1, 3)))), MOST[0])
        # ("some", 0) twice, with each ("most", 0, v) twice: no items, and the bound -2; cut by 5 it is 0.
        mosts = tuple((((((0, v), -1),), -1), ("most", 0, v)) for v in range(2))
        rows = (SOME0,) + mosts + ((((), -2), ("sum", ((0, 2), (1, 2), (2, 2)))), (((), 0), ("cut", 3, 5)))
        self.assertEqual(ending_plane(EDGE, EDGE, rows), ((), 0))
        self.assertIsNone(ending_plane(EDGE, EDGE, rows[:4] + ((((), -1), ("cut", 3, 5)),)))
        # Twice ([0, 0] + [0, 1]) less twice [0, 0] is at least 0.
        rows = (SOME0, mosts[0], (((((0, 1), 2),), 0), ("sum", ((0, 2), (1, 2)))), (((((0, 1), 1),), 0), ("cut", 2, 2)))
        self.assertEqual(ending_plane(EDGE, EDGE, rows), ((((0, 1), 1),), 0))
        # Any two of three points have not both the image 0: so at most one of them has it.
        three = (3, ((2, ((0, 1), (0, 2), (1, 0), (1, 2), (2, 0), (2, 1))),))
        pairs = [(((((x, 0), -1), ((y, 0), -1)), -1), ("fact", 0, i, (0, 0)))
                 for i, (x, y) in ((0, (0, 1)), (1, (0, 2)), (3, (1, 2)))]
        added = (((((0, 0), -2), ((1, 0), -2), ((2, 0), -2)), -3), ("sum", ((0, 1), (1, 1), (2, 1))))
        cut = (((((0, 0), -1), ((1, 0), -1), ((2, 0), -1)), -1), ("cut", 3, 2))
        self.assertEqual(ending_plane(three, EDGE, tuple(pairs) + (added, cut)), cut[0])

    def test_planes_that_are_not_told(self):
        for row in (SOME0, LEAST, MOST, FACT):
            items, bound = row[0]
            for plane in ((items, bound + 1), (items, bound - 1), (items[::-1] if len(items) > 1 else (), bound),
                          (items + items, bound), (list(items), bound), [items, bound], (items, True),
                          (tuple((choice, 2 * c) for choice, c in items), bound)):
                self.assertIsNone(ending_plane(EDGE, EDGE, ((plane, row[1]),)))
        self.assertIsNone(ending_plane(EDGE, EDGE, (((((0, 0), True), ((0, 1), 1)), 1), ("some", 0))))

    def test_reasons_that_are_none(self):
        for row in ((((), 1), ("some", 0)), (((((0, 0), 1), ((0, 1), 1)), 1), ("some", 2)), (SOME0[0], ("some",)),
                    (SOME0[0], ("some", False)), (SOME0[0], ["some", 0]), (SOME0[0], ("some", 0, 0)), (SOME0[0], "some"),
                    (LEAST[0], ("least", 0)), (LEAST[0], ("least", 0, True)), (LEAST[0], ("most", 0, 1)),
                    (FACT[0], ("fact", 0, 0, [1, 1])), (FACT[0], ("fact", 0, 2, (1, 1))), (FACT[0], ("fact", 1, 0, (1, 1))),
                    (FACT[0], ("fact", 0, 0, (1, True))), (((((0, 0), -1), ((1, 1), -1)), -1), ("fact", 0, 0, (0, 1))),
                    (SOME0[0], ("sum", ())), (SOME0[0], ("sum", ((0, 1),))), (SOME0[0], ("cut", 0, 2)),
                    (SOME0[0],), (SOME0[0], ()), SOME0 + (0,)):
            self.assertIsNone(ending_plane(EDGE, EDGE, (row,)))
        for reason in (("sum", ((0, 0),)), ("sum", ((0, True),)), ("sum", ((1, 1),)), ("sum", [(0, 1)]), ("sum", ((0, -1),)),
                       ("sum", ((0, 1), (0, 1))), ("sum", ([0, 1],)), ("sum", ((False, 1),)), ("cut", 0, 1), ("cut", 1, 2),
                       ("cut", 0, 0), ("cut", 0, -1), ("cut", 0, True), ("cut", 0, 2)):
            self.assertIsNone(ending_plane(EDGE, EDGE, (SOME0, (SOME0[0], reason))))
        self.assertEqual(ending_plane(EDGE, EDGE, (SOME0, (SOME0[0], ("sum", ((0, 1),))))), SOME0[0])
        for reason in (("sum", ((0, 0),)), ("sum", ())):
            self.assertIsNone(ending_plane(EDGE, EDGE, (SOME0, (((), 0), reason))))

    def test_equal_points(self):
        # Images are equal at equal points, and a point at two places counts once.
        A = (2, ((3, ((0, 1, 0),)),))
        B = (2, ((3, ((0, 0, 0),)),))
        right = ((((0, 1), -1), ((1, 0), -1)), -1)
        self.assertEqual(ending_plane(A, B, ((right, ("fact", 0, 0, (1, 0, 1))),)), right)
        self.assertIsNone(ending_plane(A, B, ((right, ("fact", 0, 0, (1, 0, 0))),)))
        loop = (1, ((2, ((0, 0),)),))
        one = ((((0, 1), -1),), 0)
        self.assertEqual(ending_plane(loop, EDGE, ((one, ("fact", 0, 0, (1, 1))),)), one)
        for v in range(2):
            unlike = ((((0, v), -1), ((1, 0), -1)), -1)
            self.assertIsNone(ending_plane(A, B, ((unlike, ("fact", 0, 0, (1 - v, 0, v))),)))
            self.assertIsNone(ending_plane(loop, (2, ((2, ()),)), ((((((0, v), -1),), 0), ("fact", 0, 0, (1 - v, v))),)))

    def test_without_points(self):
        empty, one = (0, ((2, ()),)), (1, ((2, ()),))
        self.assertEqual(ending_plane(one, empty, ((((), 1), ("some", 0)),)), ((), 1))
        self.assertIsNone(ending_plane(empty, empty, ((((), 1), ("some", 0)),)))

    def test_variants(self):
        rows = cutting_from(TRIANGLE, EDGE, span_refutation(TRIANGLE, EDGE))
        small = cutting_from((1, ((2, ((0, 0),)),)), EDGE, case_refutation((1, ((2, ((0, 0),)),)), EDGE))
        words = (None, True, "sum", "cut", "fact", -1, 0, 1, 2, (), 10 ** 60)
        for A, value, step in (((1, ((2, ((0, 0),)),)), small, 1), (TRIANGLE, rows, 7)):
            for other in itertools.islice(variants(value, words), 0, None, step):
                self.assertEqual(ending_plane(A, EDGE, other), plain_cutting(A, EDGE, other), other)

    def test_for_every_value(self):
        for value in WRONG:
            for other in (value, (value,), ((value, ("some", 0)),), ((SOME0[0], value),), (SOME0, value),
                          ((SOME0[0], ("some", value)),), ((SOME0[0], (value, 0)),), (((value, 1), ("some", 0)),),
                          (((SOME0[0][0], value), ("least", 0, 1)),), (((((0, 0), value),), 0), ("least", 0, 0)),
                          ((SOME0[0], ("sum", value)),), ((FACT[0], ("fact", 0, 0, value)),), (SOME0, (SOME0[0], ("cut", value, 2)))):
                self.assertEqual(ending_plane(EDGE, EDGE, other), plain_cutting(EDGE, EDGE, other), other)
        self.malformed_pairs(ending_plane, NO_STRUCTURES, EDGE, ())
        self.malformed(ending_plane, EDGE, (1, ()), ())


class Making(Case):
    def check(self, A, B, rows):
        told = cutting_from(A, B, rows)
        nogood = plain_refutation(A, B, rows)
        plane = (tuple((choice, -1) for choice in nogood), 1 - len(nogood))
        self.assertEqual(plain_cutting(A, B, told), plane)
        self.assertEqual(ending_plane(A, B, told), plane)
        return told

    def test_from_all_refutations(self):
        many = 0
        for A, B in PAIRS:
            for find in (case_refutation, slim_refutation, span_refutation):
                rows = find(A, B)
                if rows is not None:
                    many += 1
                    self.assertEqual(hom(A, B), 0)
                    self.check(A, B, rows)
                    # Each beginning of it is a refutation, too, with a nogood of its own.
                    for k in range(1, min(len(rows), 6)):
                        self.check(A, B, rows[:k])
        self.assertGreater(many, 200)

    def test_planes_hold_for_maps(self):
        for A, B in PAIRS[:150]:
            for f in plain_maps(A, B)[:4]:
                met = set(enumerate(f))
                for t, (_, facts) in enumerate(A[1]):
                    for i, fact in enumerate(facts):
                        for images in itertools.product(range(B[0]), repeat=len(fact)):
                            plane = brute.plain_told_plane(A, B, (), ("fact", t, i, images))
                            if plane is not None:
                                self.assertEqual(ending_plane(A, B, ((plane, ("fact", t, i, images)),)), plane)
                                self.assertGreaterEqual(sum(c for choice, c in plane[0] if choice in met), plane[1])

    def test_wide_nogoods(self):
        # Nogoods that hold more choices than their reasons need.
        rows = ((((0, 0), (1, 0), (2, 1)), ("fact", 0, 0, ())),)
        self.check(TRIANGLE, EDGE, rows)
        rows = ((((0, 0), (1, 0)), ("fact", 0, 0, ())), (((0, 0), (1, 0)), ("point", 2, (0, 0))),
                (((0, 0), (1, 0), (2, 1)), ("fact", 0, 2, (0,))))
        self.assertIsNone(plain_refutation(TRIANGLE, EDGE, rows))
        self.check(TRIANGLE, EDGE, rows[:2])

    def test_openings(self):
        # A fact with openings, each of which holds a choice that was taken before.
        A, B = (2, ((1, ((1,),)), (2, ((0, 1),)))), (3, ((1, ((0,),)), (2, ((0, 1), (0, 2), (1, 0), (2, 2)))))
        rows = ((((1, 1),), ("fact", 0, 0, ())), (((1, 2),), ("fact", 0, 0, ())), (((0, 0),), ("fact", 1, 0, (0, 1))),
                (((0, 2),), ("fact", 1, 0, (1,))))
        self.assertEqual(plain_refutation(A, B, rows), ((0, 2),))
        self.check(A, B, rows)
        self.check(A, B, rows[:3])

    def test_edges(self):
        empty = (0, ((2, ()),))
        self.check((1, ((2, ()),)), empty, (((), ("point", 0, ())),))
        self.check((2, ((2, ((0, 1),)),)), (1, ((2, ()),)), (((), ("fact", 0, 0, ())),))
        self.check((3, ((3, ((0, 1, 2),)),)), (4, ((3, ()),)), (((), ("fact", 0, 0, ())),))
        self.check(directed_path(24), directed_path(8), case_refutation(directed_path(24), directed_path(8)))

    def test_malformed(self):
        for value in WRONG + ((((), ("point", 0, (0, 0))),), ((((0, 0), (1, 1)), ("fact", 0, 0, ())),)):
            self.malformed(cutting_from, EDGE, EDGE, value)
        rows = case_refutation(TRIANGLE, EDGE)
        self.malformed(cutting_from, EDGE, EDGE, rows)
        self.malformed(cutting_from, TRIANGLE, EDGE, list(rows))
        self.malformed_pairs(cutting_from, NO_STRUCTURES, EDGE, rows)

    def test_short_cutting(self):
        # Point 5.9: any number of points, each two joined, into one less, with few rows.
        s = 5
        A, B = full_graph(s), full_graph(s - 1)
        rows = []

        def add(reason):
            planes = [plane for plane, _ in rows]
            rows.append((brute.plain_told_plane(A, B, planes, reason), reason))
            return len(rows) - 1

        last = []
        for v in range(s - 1):
            whole = None
            for k in range(1, s):
                pairs = [add(("fact", 0, A[1][0][1].index((x, k)), (v, v))) for x in range(k)]
                if k == 1:
                    whole = pairs[0]
                else:
                    terms = sorted([(whole, k - 1)] + [(j, 1) for j in pairs])
                    whole = add(("cut", add(("sum", tuple(terms))), k))
            last.append(whole)
        some = [add(("some", x)) for x in range(s)]
        add(("sum", tuple((j, 1) for j in sorted(last + some))))
        self.assertEqual(ending_plane(A, B, tuple(rows)), ((), 1))


if __name__ == "__main__":
    unittest.main()
