"""Matrices of fractions: point 8.1."""

import random
from fractions import Fraction

from brute import WRONG, deep, plain_integer, plain_tuple
from cases import Case
from plain import as_fractions, as_pairs, plain_determinant, plain_product, plain_reduced
from probeweb.linear import (
    LineSpace, fraction_bar, fraction_inverse, fraction_kernel, fraction_product, fraction_rank, fraction_solve,
    reduced_rows, turned_rows, unit_rows, whole_determinant)

ONE, NO = (1, 1), (0, 1)
# Pairs that are no fraction in lowest terms, and other values in its place.
NO_FRACTIONS = ((2, 4), (1, 0), (1, -2), (0, 2), (True, 1), (1, True), (False, 1), [1, 2], (1,), (1, 2, 3), 1, 0, None,
                "1/2", (1.5, 1), ("1", 1), deep(60), (10 ** 60, 10 ** 60))


def random_rows(rng, many, width, most=3):
    rows = []
    for _ in range(many):
        rows.append([Fraction(rng.randint(-most, most), rng.randint(1, most)) if rng.random() < 0.7 else Fraction(0)
                     for _ in range(width)])
    if many > 1 and rng.random() < 0.4:
        rows[-1] = [2 * a - b for a, b in zip(rows[0], rows[-2])]
    return rows


def matrices(many=400):
    for seed in range(many):
        rng = random.Random(seed)
        rows = random_rows(rng, rng.randint(0, 4), rng.randint(0, 5), rng.choice((1, 3)))
        yield rng, rows, len(rows[0]) if rows else rng.randint(0, 3)


def met(one, two):
    return sum((a * b for a, b in zip(one, two)), Fraction(0))


class Reducing(Case):
    def test_reduced(self):
        for rng, rows, width in matrices():
            told, heads = plain_reduced(rows, width)
            for given in (as_pairs(rows), list(as_pairs(rows))):
                self.assertEqual(reduced_rows(given, width), (as_pairs(told), tuple(heads)))
                self.assertEqual(fraction_rank(given, width), len(heads))

    def test_solutions_and_bars(self):
        found = {True: 0, False: 0}
        for rng, rows, width in matrices():
            column = [Fraction(rng.randint(-2, 2), rng.randint(1, 2)) for _ in rows]
            if rng.random() < 0.3:
                column = [met(row, [1] * width) for row in rows]
            given = as_pairs([column])[0]
            x = fraction_solve(as_pairs(rows), width, given)
            y = fraction_bar(list(as_pairs(rows)), width, given)
            self.assertNotEqual(x is None, y is None)
            found[x is None] += 1
            if y is None:
                heads = plain_reduced(rows, width)[1]
                self.assertEqual(len(x), width)
                self.assertTrue(all(x[k] == NO for k in range(width) if k not in heads))
                x = as_fractions([x])[0]
                self.assertEqual([met(row, x) for row in rows], column)
            else:
                self.assertEqual(as_pairs(as_fractions([y])), (y,))
                self.assertEqual(len(y), len(rows))
                y = as_fractions([y])[0]
                self.assertTrue(all(met(y, [row[k] for row in rows]) == 0 for k in range(width)))
                self.assertEqual(met(y, column), 1)
        self.assertGreater(min(found.values()), 50)

    def test_kernel(self):
        for rng, rows, width in matrices():
            heads = plain_reduced(rows, width)[1]
            free = [k for k in range(width) if k not in heads]
            told = fraction_kernel(as_pairs(rows), width)
            self.assertEqual(len(told), len(free))
            for place, x in zip(free, told):
                self.assertEqual([x[k] for k in free], [ONE if k == place else NO for k in free])
                self.assertTrue(all(met(row, as_fractions([x])[0]) == 0 for row in rows))

    def test_inverse(self):
        found = {True: 0, False: 0}
        for seed in range(300):
            rng = random.Random(seed)
            n = rng.randint(0, 4)
            rows = random_rows(rng, n, n)
            told = fraction_inverse(as_pairs(rows))
            found[told is None] += 1
            self.assertIs(told is None, len(plain_reduced(rows, n)[1]) < n)
            if told is not None and n > 0:
                self.assertEqual(fraction_product(told, as_pairs(rows)), unit_rows(n))
                self.assertEqual(fraction_product(as_pairs(rows), told), unit_rows(n))
        self.assertGreater(min(found.values()), 30)

    def test_edges(self):
        self.assertEqual(reduced_rows((), 3), ((), ()))
        self.assertEqual(reduced_rows(((), ()), 0), ((), ()))
        self.assertEqual(reduced_rows(((NO, NO),), 2), ((), ()))
        self.assertEqual((fraction_rank((), 0), fraction_rank([], 10 ** 60), fraction_rank(((),), 0)), (0, 0, 0))
        self.assertEqual(reduced_rows([], 10 ** 60), ((), ()))
        self.assertEqual(fraction_solve((), 2, ()), (NO, NO))
        self.assertIsNone(fraction_bar((), 2, ()))
        self.assertEqual(fraction_solve(((), ()), 0, (NO, NO)), ())
        self.assertIsNone(fraction_solve(((), ()), 0, (NO, ONE)))
        self.assertEqual(fraction_bar(((),), 0, ((2, 3),)), ((3, 2),))
        self.assertEqual(fraction_kernel((), 2), ((ONE, NO), (NO, ONE)))
        self.assertEqual(fraction_kernel(((), ()), 0), ())
        self.assertEqual((fraction_inverse(()), fraction_inverse([])), ((), ()))
        self.assertIsNone(fraction_inverse(((NO,),)))
        self.assertEqual(fraction_inverse((((-2, 3),),)), (((-3, 2),),))
        self.assertEqual((turned_rows((), 2), turned_rows(((), ()), 0), turned_rows([(ONE, NO)], 2)),
                         (((), ()), (), ((ONE,), (NO,))))
        self.assertEqual((unit_rows(0), unit_rows(1), unit_rows(2)), ((), ((ONE,),), ((ONE, NO), (NO, ONE))))

    def test_products(self):
        for seed in range(200):
            rng = random.Random(seed)
            a, b, c = rng.randint(1, 4), rng.randint(1, 4), rng.randint(0, 4)
            one, two = random_rows(rng, a, b), random_rows(rng, b, c)
            self.assertEqual(fraction_product(as_pairs(one), as_pairs(two)), as_pairs(plain_product(one, two)))
            self.assertEqual(turned_rows(as_pairs(two), c), as_pairs(list(map(list, zip(*two)))) if c else ())
        self.assertEqual(fraction_product((((1, 2), (1, 3)),), (((2, 1),), ((-3, 1),))), (((0, 1),),))

    def test_great_items(self):
        rows = ((10 ** 40, 3), (7 * 10 ** 39, 2)), ((1, 10 ** 30), (5, 3))
        rows = tuple(tuple((Fraction(*a).numerator, Fraction(*a).denominator) for a in row) for row in rows)
        self.assertEqual(fraction_product(fraction_inverse(rows), rows), unit_rows(2))


class Determinants(Case):
    def test_small(self):
        for seed in range(200):
            rng = random.Random(seed)
            n = rng.randint(0, 5)
            most = rng.choice((1, 3, 10 ** 40))
            rows = tuple(tuple(rng.randint(-most, most) for _ in range(n)) for _ in range(n))
            if n > 1 and rng.random() < 0.3:
                rows = rows[:-1] + (tuple(3 * a for a in rows[0]),)
            told = plain_determinant(rows)
            self.assertEqual(whole_determinant(rows), told)
            self.assertEqual(whole_determinant(list(rows)), told)
            if n > 1:
                self.assertEqual(whole_determinant((rows[1], rows[0]) + rows[2:]), -told)

    def test_edges(self):
        self.assertEqual((whole_determinant(()), whole_determinant([]), whole_determinant(((-5,),))), (1, 1, -5))
        self.assertEqual(whole_determinant(((0, 1), (1, 0))), -1)
        self.assertEqual(whole_determinant(((0, 0), (0, 1))), 0)
        self.assertEqual(whole_determinant(((0, 0, 2), (0, 3, 0), (5, 0, 0))), -30)
        many = tuple(tuple(int(i == j) * 10 ** 20 for j in range(12)) for i in range(12))
        self.assertEqual(whole_determinant(many), 10 ** 240)

    def test_malformed(self):
        for value in WRONG + (((1, 2),), ((1,), (2,)), ((True,),), ((1, 0), (0, False)), ([1],), ((ONE,),), ((1, 2), (3,)),
                              (("1",),), ((1.0,),), ((1, 0), [0, 1])):
            right = isinstance(value, (list, tuple)) and all(
                plain_tuple(row) and len(row) == len(value) and all(map(plain_integer, row)) for row in value)
            if not right:
                self.malformed(whole_determinant, value)


class Wrong(Case):
    def test_rows(self):
        asks = (turned_rows, reduced_rows, fraction_rank, fraction_kernel,
                lambda rows, width: fraction_solve(rows, width, (ONE,)),
                lambda rows, width: fraction_bar(rows, width, (ONE,)))
        for ask in asks:
            for rows in (((ONE,),), ((ONE, NO, ONE),), ((ONE, NO), (ONE,)), ([ONE, NO],), (None,), ((),), "ab", None, 5, {},
                         True, deep(60)):
                self.malformed(ask, rows, 2)
            for item in NO_FRACTIONS:
                self.malformed(ask, ((ONE, item),), 2)
                self.malformed(ask, [(item, ONE)], 2)
            for width in (-1, True, None, "2", (2,), 1, 3, 10 ** 60):
                self.malformed(ask, ((ONE, NO),), width)
        for width in (-1, True, False, None, "0", ()):
            self.malformed(reduced_rows, (), width)

    def test_columns(self):
        for ask in (fraction_solve, fraction_bar):
            for column in ((), (ONE, ONE), [ONE], None, 1, ONE, ((2, 4),), ((True, 1),), (1,), "a", deep(60)):
                self.malformed(ask, ((ONE, NO),), 2, column)

    def test_products_and_squares(self):
        self.assertEqual(fraction_product(((ONE,),), ((),)), ((),))
        for value in NO_FRACTIONS + WRONG:
            self.malformed(fraction_product, value, ((ONE,),))
            self.malformed(fraction_product, ((value,),), ((ONE,),))
            self.malformed(fraction_product, ((ONE,),), ((value,),))
            if value != ((),):
                self.malformed(fraction_product, ((ONE,),), value)
        for one, two in (((), ()), (((ONE,),), ()), ((), ((ONE,),)), (((ONE, NO),), ((ONE,),)), (((),), ((ONE,),)),
                         (((ONE,), (ONE, NO)), ((ONE,),)), ([(ONE,)], ((ONE,),)), (((ONE,),), [(ONE,)])):
            self.malformed(fraction_product, one, two)
        for value in (((ONE, NO),), ((ONE,), (NO,)), ([ONE],), (ONE,), None, 3, "a", True, ((True,),), (((2, 2),),)):
            self.malformed(fraction_inverse, value)
        for n in (-1, True, False, None, "2", (2,), [2], -10 ** 60):
            self.malformed(unit_rows, n)


class Spaces(Case):
    def test_kept_lines(self):
        for rng, rows, width in matrices(200):
            space = LineSpace()
            lines = [[int(6 * a) for a in row] for row in rows]
            kept = [line for line in lines if space.take(line)]
            self.assertEqual(len(kept), fraction_rank(as_pairs(lines), width))
            self.assertEqual(len(kept), fraction_rank(as_pairs(kept), width))


if __name__ == "__main__":
    import unittest
    unittest.main()
