"""Global rows: points 14.1 to 14.8."""

import itertools
import math
import random
import unittest

from brute import WRONG, deep, plain_ascending, plain_cutting, plain_integer, plain_maps, plain_point, plain_structure, plain_tuple
from cases import Case
from plain import apart_rows, choice_rows, reach
from probeweb.choosing import Matching
from probeweb.global_rows import (
    apart_number, bound_barrier, bounded_choice, hall_choice, hall_cutting, hall_set, is_strip, kept_lists,
    least_hall_set, other_lists, rook_row, row_structures, strip_lists, strip_number, tight_set)
from probeweb.refutations import case_refutation

EXAMPLE = ((0, 1), (0, 1), (0, 1, 2))
NO_LISTS = (None, True, 3, "ab", [(0,)], ((0,), [1]), ((1, 0),), ((0, 0),), ((3,),), ((-1,),), ((True,),), (0,), ((0,), None),
            ((10 ** 60,),), deep(60), (((0,),),), {}, [[]])
NO_SIZES = (-1, 61, True, None, "3", (3,), [], 10 ** 60, -10 ** 60)
SIXTY = tuple(range(60))
ASKS = (hall_choice, hall_set, least_hall_set, kept_lists, apart_number, rook_row, other_lists, row_structures,
        hall_cutting, lambda lists, m: tight_set(lists, m, 0, 0), lambda lists, m: bounded_choice(lists, m, ((0, 5),) * 3),
        lambda lists, m: bound_barrier(lists, m, ((0, 5),) * 3))


def random_lists(seed):
    rng = random.Random(seed)
    n, m = rng.randint(0, 5), rng.randint(0, 5)
    most = rng.choice((2, m))
    lists = []
    for _ in range(n):
        size = rng.randint(0 if rng.random() < 0.1 else min(1, m), min(most, m))
        lists.append(tuple(sorted(rng.sample(range(m), size))))
    return rng, tuple(lists), m


def staircase(n):
    """Lists of one more value each, the last one shortest."""
    return tuple(tuple(range(x + 1)) for x in range(n))[::-1]


class Halls(Case):
    def test_choices(self):
        found = {True: 0, False: 0}
        for seed in range(800):
            _, lists, m = random_lists(seed)
            apart = apart_rows(lists)
            found[bool(apart)] += 1
            self.assertEqual(hall_choice(lists, m), apart[0] if apart else None)
            halls = [S for k in range(len(lists) + 1) for S in itertools.combinations(range(len(lists)), k)
                     if len(reach(lists, S)) < k]
            told = hall_set(lists, m)
            self.assertIs(told is None, bool(apart))
            self.assertTrue(told is None or told in halls)
            self.assertEqual(least_hall_set(lists, m), halls[0] if halls else None)
        self.assertGreater(min(found.values()), 200)

    def test_kept(self):
        for seed in range(800):
            _, lists, m = random_lists(seed)
            apart = apart_rows(lists)
            kept = tuple(tuple(sorted({row[x] for row in apart})) for x in range(len(lists)))
            self.assertEqual(kept_lists(lists, m), kept)
            for x, row in enumerate(lists):
                for v in row:
                    if not apart:
                        self.refuses("hall", tight_set, lists, m, x, v)
                        continue
                    told = tight_set(lists, m, x, v)
                    self.assertIs(told is None, v in kept[x])
                    if told is not None:
                        self.assertTrue(plain_ascending(told) and set(told) <= set(range(len(lists))) - {x})
                        self.assertIn(v, reach(lists, told))
                        self.assertEqual(len(reach(lists, told)), len(told))

    def test_edges(self):
        self.assertEqual((hall_choice((), 0), hall_set((), 0), least_hall_set((), 60), kept_lists((), 5)), ((), None, None, ()))
        self.assertEqual((hall_choice(((),), 3), hall_set(((),), 3), least_hall_set(((),), 0), kept_lists(((), (1,)), 3)),
                         (None, (0,), (0,), ((), ())))
        full = (SIXTY,) * 60
        self.assertEqual((hall_choice(full, 60), hall_set(full, 60), kept_lists(full, 60)), (SIXTY, None, full))
        self.assertEqual(hall_set((tuple(range(59)),) * 60, 60), SIXTY)
        self.assertEqual(hall_choice(staircase(60), 60), tuple(range(59, -1, -1)))
        self.assertEqual(kept_lists(staircase(60), 60), tuple((59 - x,) for x in range(60)))
        self.assertEqual(tight_set(staircase(60), 60, 0, 0), (59,))
        self.refuses("large", least_hall_set, ((0,),) * 13, 1)
        self.assertEqual(least_hall_set(((0,),) * 12, 1), (0, 1))
        self.assertIsNone(least_hall_set((tuple(range(12)),) * 12, 12))
        # The least one by its size: two places with one value, the last ones.
        self.assertEqual(least_hall_set(((0, 1), (0, 1), (0, 1), (2,), (2,)), 3), (3, 4))

    def test_all_stays(self):
        # Asking for tight sets does not change the choice.
        matching = Matching(EXAMPLE, 3)
        self.assertIsNone(matching.fill())
        before = list(matching.value_at)
        self.assertEqual(matching.tight_against(2, 0), (0, 1))
        self.assertIsNone(matching.tight_against(0, 1))
        self.assertEqual(matching.value_at, before)

    def test_malformed(self):
        for ask in ASKS:
            for lists in NO_LISTS:
                self.malformed(ask, lists, 3)
            for m in NO_SIZES:
                self.malformed(ask, ((),), m)
            self.malformed(ask, ((),) * 61, 3)
        for x, v in ((-1, 0), (3, 0), (0, 2), (True, 0), (0, True), (None, 0), (0, None), ("0", 0), ((0,), 0), (0, (0,)),
                     (10 ** 60, 0), (0, 10 ** 60), (0, [])):
            self.malformed(tight_set, EXAMPLE, 3, x, v)
            self.malformed(tight_set, ((0,), (0,), (0,)), 3, x, v if v != 0 else 1)

    def test_document(self):
        self.assertEqual(kept_lists(EXAMPLE, 3), ((0, 1), (0, 1), (2,)))
        self.assertEqual(tight_set(EXAMPLE, 3, 2, 0), (0, 1))
        self.assertEqual((apart_number(EXAMPLE, 3), rook_row(EXAMPLE, 3)), (2, (1, 7, 10, 2)))
        self.assertEqual(hall_set(((0,), (0,)), 1), (0, 1))


class Bounds(Case):
    def test_against_all_rows(self):
        found = {}
        for seed in range(1500):
            rng, lists, m = random_lists(seed)
            bounds = []
            for _ in range(m):
                least = rng.choice((0, 0, 0, 1, 2))
                bounds.append((least, least + rng.choice((0, 1, 2, 5))))
            bounds = tuple(bounds)
            rows = [row for row in choice_rows(lists) if all(a <= row.count(v) <= b for v, (a, b) in enumerate(bounds))]
            told, barrier = bounded_choice(lists, m, bounds), bound_barrier(lists, m, bounds)
            self.assertIs(told is None, not rows)
            self.assertIs(barrier is None, bool(rows))
            self.assertTrue(told is None or told in rows)
            found[barrier and barrier[0]] = found.get(barrier and barrier[0], 0) + 1
            if barrier is not None:
                self.check(lists, m, bounds, barrier)
        self.assertGreater(min(found[word] for word in (None, "high", "low")), 150)

    def check(self, lists, m, bounds, barrier):
        word, told = barrier
        self.assertTrue(plain_tuple(told) and plain_ascending(told))
        if word == "high":
            self.assertTrue(set(told) <= set(range(len(lists))))
            self.assertLess(sum(bounds[v][1] for v in reach(lists, told)), len(told))
        else:
            self.assertEqual(word, "low")
            self.assertTrue(set(told) <= set(range(m)))
            self.assertGreater(sum(bounds[v][0] for v in told), sum(1 for row in lists if set(row) & set(told)))

    def test_edges(self):
        self.assertEqual((bounded_choice((), 0, ()), bound_barrier((), 0, ())), ((), None))
        self.assertEqual((bounded_choice((), 1, ((1, 1),)), bound_barrier((), 1, ((1, 1),))), (None, ("low", (0,))))
        self.assertEqual(bound_barrier(((),), 0, ()), ("high", (0,)))
        self.assertEqual(bounded_choice(((0,),), 1, ((0, 10 ** 60),)), (0,))
        self.assertEqual(bound_barrier(((0,),), 1, ((10 ** 60, 10 ** 60),)), ("low", (0,)))
        self.assertEqual(bound_barrier(((0,),) * 3, 1, ((0, 2),)), ("high", (0, 1, 2)))
        # What must stand often is moved in front of what may.
        self.assertEqual(bounded_choice(((0, 1), (0, 1), (0,)), 2, ((1, 1), (2, 2))), (1, 1, 0))
        even = tuple((1, 1) for _ in range(60))
        self.assertEqual(sorted(bounded_choice((SIXTY,) * 60, 60, even)), list(SIXTY))
        self.assertEqual(bounded_choice(staircase(60), 60, even), tuple(range(59, -1, -1)))
        barrier = bound_barrier((SIXTY,) * 60, 60, ((1, 1),) * 59 + ((0, 0),))
        self.check((SIXTY,) * 60, 60, ((1, 1),) * 59 + ((0, 0),), barrier)

    def test_malformed(self):
        for bounds in (None, True, 3, "ab", [(0, 1)], (), ((0, 1),) * 2, ((1, 0),), ((-1, 0),), ((0, True),), ((False, 1),),
                       ([0, 1],), ((0,),), ((0, 1, 2),), (0, 1), ((0, None),), (("0", 1),), ((0, -1),), deep(60)):
            self.malformed(bounded_choice, ((0,),), 1, bounds)
            self.malformed(bound_barrier, ((0,),), 1, bounds)


class Numbers(Case):
    def test_against_all_rows(self):
        for seed in range(400):
            _, lists, m = random_lists(seed)
            n = len(lists)
            apart = apart_rows(lists)
            self.assertEqual(apart_number(lists, m), len(apart))
            rooks = [sum(1 for S in itertools.combinations(range(n), k) for _ in apart_rows([lists[x] for x in S]))
                     for k in range(n + 1)]
            self.assertEqual(rook_row(lists, m), tuple(rooks))
            others = other_lists(lists, m)
            self.assertEqual(others, tuple(tuple(v for v in range(m) if v not in row) for row in lists))
            if n <= m:
                # Points 14.5 and 14.6.
                s = rook_row(others, m)
                self.assertEqual(sum((-1) ** k * s[k] * math.perm(m - k, n - k) for k in range(n + 1)), len(apart))
                ryser = 0
                for c in range(n + 1):
                    for columns in itertools.combinations(range(m), c):
                        product = math.prod(len(set(row) & set(columns)) for row in lists)
                        ryser += (-1) ** (n - c) * math.comb(m - c, n - c) * product
                self.assertEqual(ryser, len(apart))

    def test_bounds(self):
        full = (tuple(range(14)),) * 14
        self.assertEqual(apart_number(full, 14), math.factorial(14))
        self.assertEqual(rook_row(full, 14), tuple(math.comb(14, k) * math.perm(14, k) for k in range(15)))
        for ask in (apart_number, rook_row):
            self.refuses("large", ask, ((),) * 15, 0)
            self.refuses("large", ask, (), 15)
            self.refuses("large", ask, ((),) * 60, 60)
        self.assertEqual((apart_number((), 0), rook_row((), 14), apart_number(((),), 0), rook_row(((),) * 2, 3)),
                         (1, (1,), 0, (1, 0, 0)))
        self.assertEqual(apart_number(((0,),) * 2, 1), 0)
        self.assertEqual((other_lists((), 60), other_lists(((), SIXTY) * 30, 60)), ((), (SIXTY, ()) * 30))


class Structures(Case):
    def test_maps(self):
        for seed in range(250):
            _, lists, m = random_lists(seed)
            if len(set(lists)) > 5:
                continue
            A, B = row_structures(lists, m)
            self.assertTrue(plain_structure(A) and plain_structure(B))
            self.assertEqual([arity for arity, _ in A[1]], [2] + [1] * len(set(lists)))
            self.assertEqual([arity for arity, _ in B[1]], [2] + [1] * len(set(lists)))
            for (_, rows), (_, others), told in zip(A[1][1:], B[1][1:], sorted(set(lists))):
                self.assertEqual(rows, tuple((x,) for x, row in enumerate(lists) if row == told))
                self.assertEqual(others, tuple((v,) for v in told))
            self.assertEqual(plain_maps(A, B), apart_rows(lists))
            self.assertEqual(len(A[1][0][1]), len(lists) * (len(lists) - 1))

    def test_cuttings(self):
        found = {True: 0, False: 0}
        for seed in range(500):
            _, lists, m = random_lists(seed)
            if len(set(lists)) > 5:
                continue
            rows = hall_cutting(lists, m)
            found[rows is None] += 1
            self.assertIs(rows is None, bool(apart_rows(lists)))
            if rows is not None:
                self.check(lists, m, rows)
        self.assertGreater(min(found.values()), 100)

    def check(self, lists, m, rows):
        A, B = row_structures(lists, m)
        items, bound = plain_cutting(A, B, rows)
        self.assertEqual(items, ())
        self.assertGreater(bound, 0)
        self.assertLessEqual(len(rows), 5 * (len(lists) + 1) ** 2 * (m + 1))

    def test_edges(self):
        self.assertIsNone(hall_cutting((), 0))
        self.check(((),), 0, hall_cutting(((),), 0))
        self.check(((),), 3, hall_cutting(((),), 3))
        self.check(((0,), (0,)), 1, hall_cutting(((0,), (0,)), 1))
        self.check(((0, 1),) * 3, 5, hall_cutting(((0, 1),) * 3, 5))
        holes = ((0, 1, 2, 3, 4, 5, 6, 7, 8),) * 10
        self.check(holes, 9, hall_cutting(holes, 9))
        mixed = ((0, 1), (1, 2), (0, 2), (0, 1, 2), (3,), (3, 4))[:5]
        self.check(mixed, 5, hall_cutting(mixed, 5))
        self.assertEqual(row_structures((), 0), ((0, ((2, ()),)), (0, ((2, ()),))))
        self.assertEqual(row_structures(((0,), (), (0,)), 2),
                         ((3, ((2, ((0, 1), (0, 2), (1, 0), (1, 2), (2, 0), (2, 1))), (1, ((1,),)), (1, ((0,), (2,))))),
                          (2, ((2, ((0, 1), (1, 0))), (1, ()), (1, ((0,),))))))
        self.assertEqual(len(row_structures((SIXTY,) * 60, 60)[0][1][0][1]), 3540)

    def test_shorter_than_cases(self):
        holes = ((0, 1, 2, 3, 4),) * 6
        A, B = row_structures(holes, 5)
        rows = hall_cutting(holes, 5)
        self.check(holes, 5, rows)
        self.assertIsNotNone(case_refutation(A, B))

    def test_many_lists(self):
        five = ((), (0,), (1,), (2,), (3,))
        self.assertEqual(len(row_structures(five + five, 4)[0][1]), 6)
        six = five + ((0, 1),)
        self.refuses("many", row_structures, six, 4)
        self.refuses("many", hall_cutting, six, 4)
        free = tuple((v,) for v in range(6))
        self.refuses("many", hall_cutting, free, 6)
        self.assertIsNone(hall_cutting(free[:5], 6))


def plain_strip(value, n):
    if not (plain_integer(n) and n >= 0 and plain_tuple(value)):
        return False
    for row in value:
        if not (plain_tuple(row) and len(row) == n and all(plain_point(v, n) for v in row) and len(set(row)) == n):
            return False
    return all(len({row[k] for row in value}) == len(value) for k in (range(n) if value else ()))


class Strips(Case):
    def test_numbers(self):
        told = {}
        for n in range(5):
            orders = list(itertools.permutations(range(n)))
            strips = [()]
            for k in range(n + 1):
                told[k, n] = len(strips)
                strips = [strip + (row,) for strip in strips for row in orders if plain_strip(strip + (row,), n)]
        for (k, n), number in told.items():
            self.assertEqual(strip_number(k, n), number)
        self.assertEqual([strip_number(k, 5) for k in range(6)], [1, 120, 120 * 44, 66240, 161280, 161280])
        for k, n in ((1, 0), (6, 5), (0, 6), (-1, 3), (3, -1), (True, 3), (1, True), (None, 3), (1, None), ("1", 3), (1, (3,)),
                     (10 ** 60, 3), (1, 10 ** 60)):
            self.malformed(strip_number, k, n)

    def test_values(self):
        strip = ((0, 1, 2), (1, 2, 0))
        values = [strip, strip + ((2, 0, 1),), strip + ((0, 1, 2),), (), ((0, 1, 2), (0, 2, 1)), ((0, 0, 1),), ((0, 1),),
                  [(0, 1, 2)], ((0, 1, 2), [1, 2, 0]), ((0, 1, 3),), ((0, True, 2),), (0, 1, 2), ((),), ((), ())]
        for value in itertools.chain(values, WRONG):
            for n in (3, 2, 1, 0, -1, True, None, "3", (3,), [3], 10 ** 60, -10 ** 60):
                self.assertIs(is_strip(value, n), plain_strip(value, n), (value, n))
                if not plain_strip(value, n):
                    self.malformed(strip_lists, value, n)

    def test_strips(self):
        # Without rows there is nothing to be walked through, however many columns are told.
        for n in (0, 1, 5, 61, 10 ** 9, 10 ** 60):
            self.assertIs(is_strip((), n), True)
        for n in (-1, -10 ** 60, True, False, None, "5", [5], (5,)):
            self.assertIs(is_strip((), n), False)
        for n in (1, 5, 60, 61, 70):
            rows = tuple(tuple((x + k) % n for x in range(n)) for k in range(min(n, 4)))
            self.assertIs(is_strip(rows, n), True)
            self.assertIs(is_strip(rows[:1], n), True)
            self.assertIs(is_strip(rows + rows[:1], n), False)
            self.assertIs(is_strip(rows + (rows[0][:-1],), n), False)
            self.assertIs(is_strip(rows + (rows[0] + (n,),), n), False)
            self.assertIs(is_strip(rows, n + 1), False)
            self.assertIs(is_strip(rows, 10 ** 60), False)
            self.assertIs(is_strip(list(rows), n), False)
            self.assertIs(is_strip((rows[0][:-1] + (n,),), n), False)
        self.assertIs(is_strip(((0, 1, 1),), 3), False)
        self.assertIs(is_strip(((0, 1, 2), (1, 0, 2)), 3), False)
        self.assertIs(is_strip(((0, 1, 2), (2, 0, 1), (1, 2, 0)), 3), True)
        self.assertEqual((is_strip(((),), 0), is_strip([], 3), is_strip(None, 3)), (True, False, False))

    def test_lists(self):
        self.assertEqual(strip_lists(((0, 1, 2), (1, 2, 0)), 3), ((2,), (0,), (1,)))
        self.assertEqual((strip_lists((), 2), strip_lists((), 0), strip_lists(((0,),), 1)), (((0, 1), (0, 1)), (), ((),)))
        rows = tuple(tuple((x + k) % 60 for x in range(60)) for k in range(59))
        self.assertEqual(strip_lists(rows, 60), tuple(((x + 59) % 60,) for x in range(60)))
        # Point 14.8: each strip can be continued, and the number of ways is a permanent.
        for strip in (((0, 1, 2, 3),), ((0, 1, 2, 3), (1, 0, 3, 2)), ((0, 1, 2, 3), (1, 2, 3, 0))):
            lists = strip_lists(strip, 4)
            more = [row for row in itertools.permutations(range(4)) if plain_strip(strip + (row,), 4)]
            self.assertEqual(apart_number(lists, 4), len(more))
            self.assertEqual(hall_choice(lists, 4), min(more))


if __name__ == "__main__":
    unittest.main()
