"""Nogoods and refutations: points 5.1 to 5.6."""

import itertools
import random
import unittest

import brute
from brute import (
    WRONG, directed_path, full_graph, hom, plain_nogood, plain_openings, plain_refutation, plain_span,
    plain_structure, random_pair, ring, variants)
from cases import Case
from probeweb.arcs import lists_stand
from probeweb.refutations import (
    case_number, case_refutation, fact_openings, is_nogood, nogood_length, refuted_nogood, row_span, slim_refutation,
    span_refutation)

EDGE, TRIANGLE = full_graph(2), full_graph(3)
NO_STRUCTURES = [value for value in WRONG if not plain_structure(value)]
PAIRS = [random_pair(seed) for seed in range(300)] + [random_pair(seed, rows_a=8, rows_b=5) for seed in range(200)]
PAIRS += [random_pair(seed, arities=(2, 3), most_b=3, rows_b=4) for seed in range(200)]
LOOP = (1, ((2, ((0, 0),)),))


def refutation_of(A, B):
    """A refutation by taking all functions (point 5.3); none if there is a map."""
    rows = []

    def add(nogood, reason):
        rows.append((nogood, reason))
        return len(rows) - 1

    def case(values):
        if len(values) < A[0]:
            js = tuple(case(values + (v,)) for v in range(B[0]))
            return add(tuple(enumerate(values)), ("point", len(values), js))
        for t, (_, facts) in enumerate(A[1]):
            for i, fact in enumerate(facts):
                if tuple(values[x] for x in fact) not in B[1][t][1]:
                    return add(tuple((x, values[x]) for x in sorted(set(fact))), ("fact", t, i, ()))
        return add((), "a map")

    case(())
    return tuple(rows)


def plain_slim(A, B):
    """True if the rows of point 5.2 lead, with at most one choice each, to the empty nogood."""
    held = set()
    while True:
        before = len(held)
        for x in range(A[0]):
            if all(((x, v),) in held or () in held for v in range(B[0])):
                held.add(())
        nogoods = [()] + [((x, v),) for x in range(A[0]) for v in range(B[0])]
        for nogood in nogoods:
            for t, (_, facts) in enumerate(A[1]):
                for i, fact in enumerate(facts):
                    if all(any(set(told) <= set(nogood) | set(zip(fact, opening)) for told in held)
                           for opening in plain_openings(A, B, nogood, t, i)):
                        held.add(nogood)
        if len(held) == before:
            return () in held


def plain_family(A, B):
    """True if there is a family of functions as in point 5.5."""
    family = set()
    for size in range(4):
        for points in itertools.combinations(range(A[0]), size):
            for values in itertools.product(range(B[0]), repeat=size):
                f = dict(zip(points, values))
                if all(tuple(f[x] for x in fact) in others for (_, facts), (_, others) in zip(A[1], B[1])
                       for fact in facts if set(fact) <= set(points)):
                    family.add(frozenset(f.items()))
    while True:
        kept = set()
        for f in family:
            points = {x for x, _ in f}
            parts = all(f - {choice} in family for choice in f)
            longer = len(f) == 3 or all(any(f | {(x, v)} in family for v in range(B[0]))
                                        for x in range(A[0]) if x not in points)
            if parts and longer:
                kept.add(f)
        if kept == family:
            return len(family) > 0
        family = kept


class Nogoods(Case):
    def test_is_nogood(self):
        A, B = (3, ()), (2, ())
        for value in ((), ((0, 1),), ((0, 1), (2, 0)), ((0, 0), (1, 0), (2, 0))):
            self.assertIs(is_nogood(A, B, value), True)
        for value in (((1, 0), (0, 0)), ((0, 0), (0, 1)), ((0, 0), (0, 0)), ((3, 0),), ((0, 2),), ((-1, 0),), ((0, -1),),
                      [(0, 0)], ([0, 0],), ((0,),), ((0, 0, 0),), ((True, 0),), ((0, False),), ((0, None),), (0, 1)):
            self.assertIs(is_nogood(A, B, value), False, value)
        for value in itertools.chain(WRONG, variants(((0, 1), (1, 0), (2, 1)))):
            self.assertIs(is_nogood(A, B, value), plain_nogood(A, B, value), value)
        self.assertIs(is_nogood((0, ()), (0, ()), ()), True)
        self.malformed_pairs(is_nogood, NO_STRUCTURES, EDGE, ())
        self.malformed(is_nogood, EDGE, (1, ()), ())

    def test_openings(self):
        for A, B in PAIRS[:120]:
            rng = random.Random(len(A[1]))
            for t, (_, facts) in enumerate(A[1]):
                for i in range(len(facts)):
                    for _ in range(4 if B[0] > 0 else 1):
                        points = [x for x in range(A[0]) if rng.random() < 0.4 and B[0] > 0]
                        nogood = tuple((x, rng.randrange(B[0])) for x in points)
                        self.assertEqual(fact_openings(A, B, nogood, t, i), plain_openings(A, B, nogood, t, i))

    def test_openings_with_equal_places(self):
        A = (2, ((3, ((0, 1, 0), (1, 1, 1))),))
        B = (2, ((3, ((0, 0, 0), (0, 1, 0), (0, 1, 1), (1, 0, 1), (1, 1, 1))),))
        self.assertEqual(fact_openings(A, B, (), 0, 0), ((0, 0, 0), (0, 1, 0), (1, 0, 1), (1, 1, 1)))
        self.assertEqual(fact_openings(A, B, (), 0, 1), ((0, 0, 0), (1, 1, 1)))
        self.assertEqual(fact_openings(A, B, ((0, 1),), 0, 0), ((1, 0, 1), (1, 1, 1)))
        self.assertEqual(fact_openings(A, B, ((0, 0), (1, 1)), 0, 0), ((0, 1, 0),))
        self.assertEqual(fact_openings(A, B, ((1, 0),), 0, 1), ((0, 0, 0),))

    def test_openings_malformed(self):
        for nogood in WRONG + (((1, 0), (0, 0)), ((0, 0), (0, 1)), ((0, 5),), [(0, 0)]):
            if not plain_nogood(EDGE, TRIANGLE, nogood):
                self.malformed(fact_openings, EDGE, TRIANGLE, nogood, 0, 0)
        for index in (-1, 2, True, False, None, "0", (0,), 10 ** 60):
            self.malformed(fact_openings, EDGE, TRIANGLE, (), 0, index)
            self.malformed(fact_openings, EDGE, TRIANGLE, (), index, 0)
        self.malformed(fact_openings, (1, ((2, ()),)), EDGE, (), 0, 0)
        self.malformed_pairs(fact_openings, NO_STRUCTURES, EDGE, (), 0, 0)


class Checking(Case):
    def test_right_refutations(self):
        for A, B in PAIRS:
            if B[0] ** A[0] <= 300:
                rows = refutation_of(A, B)
                if hom(A, B) == 0:
                    self.assertEqual(plain_refutation(A, B, rows), ())
                    self.assertEqual(refuted_nogood(A, B, rows), ())
                else:
                    self.assertIsNone(refuted_nogood(A, B, rows))

    def test_bent_refutations(self):
        pairs = [(TRIANGLE, EDGE), (directed_path(3), directed_path(2)), (LOOP, EDGE),
                 ((2, ((3, ((0, 0, 1),)),)), (2, ((3, ((0, 1, 0), (1, 0, 1), (1, 1, 0))),)))]
        for A, B in pairs:
            for rows in (case_refutation(A, B), span_refutation(A, B), refutation_of(A, B)):
                if rows is not None:
                    for other in variants(rows, (None, True, "fact", "point", -1, 0, 1, (), 10 ** 60)):
                        self.assertEqual(refuted_nogood(A, B, other), plain_refutation(A, B, other), other)

    def test_ends(self):
        rows = ((((0, 0), (1, 0)), ("fact", 0, 0, ())), (((0, 1), (1, 1)), ("fact", 0, 0, ())))
        self.assertEqual(refuted_nogood(EDGE, EDGE, rows), ((0, 1), (1, 1)))
        self.assertEqual(refuted_nogood(EDGE, EDGE, rows[:1]), ((0, 0), (1, 0)))
        more = rows + ((((0, 0), (1, 0)), ("fact", 0, 0, ())),)
        self.assertEqual(refuted_nogood(EDGE, EDGE, more), ((0, 0), (1, 0)))
        # Only earlier rows are named, and a row may hold more than it needs.
        self.assertIsNone(refuted_nogood((1, ()), (1, ()), (((), ("point", 0, (0,))),)))
        # The point of a reason "point" is in no choice of the nogood.
        bare = (2, ((2, ()),))
        first = ((), ("fact", 0, 0, ()))
        self.assertEqual(refuted_nogood(EDGE, bare, (first, (((1, 0),), ("point", 0, (0, 0))))), ((1, 0),))
        self.assertIsNone(refuted_nogood(EDGE, bare, (first, (((0, 0),), ("point", 0, (0, 0))))))
        wide = ((((0, 0), (1, 0), (2, 1)), ("fact", 0, 0, ())),)
        self.assertEqual(refuted_nogood(TRIANGLE, EDGE, wide), ((0, 0), (1, 0), (2, 1)))

    def test_without_points(self):
        empty, one = (0, ((2, ()),)), (1, ((2, ()),))
        self.assertEqual(refuted_nogood(one, empty, (((), ("point", 0, ())),)), ())
        self.assertIsNone(refuted_nogood(empty, empty, (((), ("point", 0, ())),)))
        self.assertIsNone(refuted_nogood(empty, one, (((), ("point", 0, ())),)))
        self.assertIsNone(refuted_nogood(empty, one, ()))

    def test_for_every_value(self):
        for value in WRONG:
            self.assertIsNone(refuted_nogood(EDGE, EDGE, value))
            self.assertIsNone(refuted_nogood(EDGE, EDGE, (value,)))
            self.assertIsNone(refuted_nogood(EDGE, EDGE, (((), value),)))
            self.assertIsNone(refuted_nogood(EDGE, EDGE, (((), ("point", value, ())),)))
            self.assertIsNone(refuted_nogood(EDGE, EDGE, (((), ("fact", 0, 0, value)),)))
        self.malformed_pairs(refuted_nogood, NO_STRUCTURES, EDGE, ())
        self.malformed(refuted_nogood, EDGE, (1, ()), ())


class Finding(Case):
    def check(self, A, B, rows):
        self.assertEqual(plain_refutation(A, B, rows), ())
        self.assertEqual(refuted_nogood(A, B, rows), ())
        self.assertEqual(row_span(A, rows), max(plain_span(A, row) for row in rows))
        self.assertEqual(nogood_length(rows), max(len(nogood) for nogood, _ in rows))

    def test_case(self):
        for A, B in PAIRS:
            rows = case_refutation(A, B)
            self.assertIs(rows is None, hom(A, B) > 0)
            if rows is not None:
                self.check(A, B, rows)

    def test_slim(self):
        told = 0
        for A, B in PAIRS:
            rows = slim_refutation(A, B)
            self.assertIs(rows is not None, plain_slim(A, B))
            unlike = all(len(set(row)) == len(row) for _, facts in A[1] for row in facts)
            if unlike:
                self.assertIs(rows is not None, not lists_stand(A, B))
            elif not lists_stand(A, B):
                self.assertIsNotNone(rows)
            if rows is not None:
                told += 1
                self.check(A, B, rows)
                self.assertLessEqual(nogood_length(rows), 1)
        self.assertGreater(told, 100)

    def test_slim_where_lists_stand(self):
        # A fact with a point at two places: the lists stand, and yet there is a slim refutation.
        self.assertTrue(lists_stand(LOOP, EDGE))
        rows = slim_refutation(LOOP, EDGE)
        self.check(LOOP, EDGE, rows)
        self.assertEqual(nogood_length(rows), 1)

    def test_span(self):
        told = 0
        for A, B in PAIRS[:500]:
            rows = span_refutation(A, B)
            self.assertIs(rows is None, plain_family(A, B))
            if rows is not None:
                told += 1
                self.check(A, B, rows)
                self.assertLessEqual(row_span(A, rows), 3)
        self.assertGreater(told, 100)

    def test_without_points(self):
        empty, one = (0, ((2, ()),)), (1, ((2, ()),))
        for find in (case_refutation, slim_refutation, span_refutation):
            self.assertIsNone(find(empty, empty))
            self.assertIsNone(find(empty, one))
            self.assertIsNone(find(one, one))
            self.check(one, empty, find(one, empty))
            self.check((5, ((2, ((0, 1),)),)), empty, find((5, ((2, ((0, 1),)),)), empty))

    def test_where_each_one_stops(self):
        # A triangle into an edge is not slim, four points into three have no narrow refutation.
        self.assertIsNone(slim_refutation(TRIANGLE, EDGE))
        self.check(TRIANGLE, EDGE, span_refutation(TRIANGLE, EDGE))
        self.assertIsNone(span_refutation(full_graph(4), TRIANGLE))
        self.check(full_graph(4), TRIANGLE, case_refutation(full_graph(4), TRIANGLE))

    def test_case_bounds(self):
        dots = [(n, ((2, ()),)) for n in range(26)]
        self.assertIsNone(case_refutation(dots[24], dots[8]))
        for A, B in ((dots[25], dots[1]), (dots[1], dots[9]), (dots[25], dots[9])):
            self.refuses("large", case_refutation, A, B)
        self.malformed(case_refutation, dots[25], (9, ((1, ()),)))
        self.check(ring(23), EDGE, case_refutation(ring(23), EDGE))
        self.check(directed_path(24), directed_path(8), case_refutation(directed_path(24), directed_path(8)))
        # More than 20000 cases of nine points, any two joined, into eight.
        self.refuses("large", case_refutation, full_graph(9), full_graph(8))

    def test_case_never_refuses_few_functions(self):
        # Such A and B have at most 8000 functions.
        rng = random.Random(8)
        for a, b in ((12, 2), (8, 3), (6, 4), (5, 6), (4, 8), (4, 7), (24, 1), (5, 5)):
            for _ in range(12):
                A = brute.structure(rng, (3, 2), a, 4 * a)
                B = brute.structure(rng, (3, 2), b, 2 * b ** 2)
                rows = case_refutation(A, B)
                if rows is not None:
                    self.assertEqual(refuted_nogood(A, B, rows), ())
        parity = (2, ((3, ((0, 0, 0), (0, 1, 1), (1, 0, 1), (1, 1, 0))), (3, ((0, 0, 1), (0, 1, 0), (1, 0, 0), (1, 1, 1)))))
        for seed in range(10):
            rng = random.Random(seed)
            triples = sorted({tuple(rng.sample(range(12), 3)) for _ in range(26)})
            odd = tuple(row for row in triples if rng.random() < 0.5)
            A = (12, ((3, tuple(row for row in triples if row not in odd)), (3, odd)))
            rows = case_refutation(A, parity)
            if rows is not None:
                self.assertEqual(refuted_nogood(A, parity, rows), ())

    def test_slim_bounds(self):
        chain = directed_path(60)
        self.check(chain, directed_path(12), slim_refutation(chain, directed_path(12)))
        self.refuses("large", slim_refutation, (1, ()), (13, ()))
        rows = tuple(itertools.islice(itertools.product(range(12), repeat=3), 401))
        self.refuses("large", slim_refutation, (12, ((3, rows),)), (1, ((3, ()),)))
        self.refuses("large", slim_refutation, (1, ((3, ()),)), (12, ((3, rows),)))
        self.assertIsNone(slim_refutation((12, ((3, rows[:400]),)), (1, ((3, ((0, 0, 0),)),))))
        self.malformed(slim_refutation, (1, ()), (13, ((1, ()),)))

    def test_span_bounds(self):
        self.assertIsNone(span_refutation((12, ()), (5, ())))
        self.check(full_graph(12), EDGE, span_refutation(full_graph(12), EDGE))
        chain = directed_path(12)
        self.check(chain, directed_path(5), span_refutation(chain, directed_path(5)))
        for A, B in (((13, ()), (1, ())), ((1, ()), (6, ()))):
            self.refuses("large", span_refutation, A, B)
        self.malformed(span_refutation, (13, ()), (6, ((1, ()),)))

    def test_malformed(self):
        for find in (case_refutation, slim_refutation, span_refutation):
            self.malformed_pairs(find, NO_STRUCTURES, EDGE)
            self.malformed(find, EDGE, (1, ((1, ()),)))


class Numbers(Case):
    def test_numbers(self):
        rows = ((((0, 0), (1, 0)), ("fact", 0, 0, ())), (((0, 1), (1, 1)), ("fact", 0, 0, ())),
                (((0, 0), (1, 0), (2, 1)), ("fact", 0, 0, ())))
        self.assertEqual((nogood_length(rows), row_span(TRIANGLE, rows), case_number(rows)), (3, 3, 1))
        self.assertEqual((nogood_length(rows[:2]), row_span(TRIANGLE, rows[:2])), (2, 2))
        point = (((), ("point", 0, ())),)
        self.assertEqual((nogood_length(point), row_span(EDGE, point), case_number(point)), (0, 1, 1))
        for value in NO_STRUCTURES:
            self.malformed(row_span, value, point)

    def test_case_number(self):
        for A, B in PAIRS[:150]:
            rows = case_refutation(A, B)
            if rows is not None:
                numbers = []
                for _, reason in rows:
                    numbers.append(1 + sum(numbers[j] for j in reason[-1]))
                self.assertEqual(case_number(rows), numbers[-1])
        # A row that is named twice counts twice: a long chain of such rows is a great tree of cases.
        A = (40, ((1, ((39,),)),))
        B = (2, ((1, ()),))
        chain = ((((39, 0),), ("fact", 0, 0, ())), (((39, 1),), ("fact", 0, 0, ())), ((), ("point", 39, (0, 1))))
        for x in range(39):
            chain += (((), ("point", x, (x + 2, x + 2))),)
        self.assertEqual(refuted_nogood(A, B, chain), ())
        self.assertEqual(case_number(chain), 4 * 2 ** 39 - 1)


if __name__ == "__main__":
    unittest.main()
