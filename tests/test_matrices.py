"""Words, paths, cycles and grids: points 8.2 to 8.7."""

import itertools
import random
from fractions import Fraction

import brute
from brute import WRONG, directed_path, hom, plain_structure, ring
from cases import Case
from plain import (
    all_words, plain_determinant, plain_letter, plain_letters, plain_product, plain_word_number, shuffled)
from probeweb.maps import map_number
from probeweb.matrices import (
    closed_row, cycle_graph, cycle_within, grid_graph, grid_number, kind_letters, letter_rows, path_matrix,
    spectrum_row, told_by_traces, word_apart, word_number, word_path, word_within)
from probeweb.structures import beside

NO_STRUCTURES = [value for value in WRONG if not plain_structure(value)]
NOT_BINARY = (1, ((2, ()), (3, ())))
MIXED = (3, ((2, ((0, 1), (1, 2))), (1, ((0,), (2,))), (2, ((2, 2),))))


def pairs(many=250):
    for seed in range(many):
        rng = random.Random(seed)
        kind = brute.random_kind(rng, (1, 2), 2)
        n = rng.randint(0, 4)
        A = brute.structure(rng, kind, n, 5)
        yield A, brute.structure(rng, kind, rng.choice((n, rng.randint(0, 4))), 5)
        yield A, shuffled(A, rng)
    yield directed(6), directed(3, 3)


def directed(*sizes):
    """Directed cycles of these numbers of points, side by side."""
    rows = []
    first = 0
    for size in sizes:
        rows += [(first + i, first + (i + 1) % size) for i in range(size)]
        first += size
    return (first, ((2, tuple(sorted(rows))),))


PAIRS = list(pairs())


class Words(Case):
    def test_letters(self):
        for A, _ in PAIRS:
            kind = tuple(arity for arity, _ in A[1])
            self.assertEqual(list(kind_letters(A)), plain_letters(kind))
            for letter in kind_letters(A):
                self.assertEqual(letter_rows(A, letter), tuple(map(tuple, plain_letter(A, letter))))
        self.assertEqual(kind_letters(MIXED), ((0, 0), (0, 1), (1, 0), (2, 0), (2, 1)))
        self.assertEqual(letter_rows(MIXED, (1, 0)), ((1, 0, 0), (0, 0, 0), (0, 0, 1)))
        self.assertEqual(letter_rows(MIXED, (0, 1)), ((0, 0, 0), (1, 0, 0), (0, 1, 0)))
        self.assertEqual(kind_letters((5, ())), ())
        self.assertEqual(letter_rows((0, ((2, ()),)), (0, 1)), ())

    def test_paths(self):
        for A, _ in PAIRS[::3]:
            for word in all_words(kind_letters(A), 3):
                path = word_path(A, word)
                self.assertTrue(plain_structure(path))
                self.assertEqual([arity for arity, _ in path[1]], [arity for arity, _ in A[1]])
                self.assertEqual(word_number(A, word), plain_word_number(A, word))
                self.assertEqual(word_number(A, word), hom(path, A))
        word = ((0, 0), (1, 0), (1, 0), (2, 1), (0, 0))
        self.assertEqual(word_path(MIXED, word), (4, ((2, ((0, 1), (2, 3))), (1, ((1,),)), (2, ((2, 1),)))))
        self.assertEqual(word_path(MIXED, ()), (1, ((2, ()), (1, ()), (2, ()))))
        self.assertEqual(word_number((0, ((2, ()),)), ()), 0)
        self.assertEqual(word_number(MIXED, ()), 3)

    def test_long_words(self):
        full = (2, ((2, ((0, 0), (0, 1), (1, 0), (1, 1))), (1, ((0,),))))
        self.assertEqual(word_number(full, ((0, 0),) * 1000), 2 ** 1001)
        self.refuses("large", word_number, full, ((0, 0),) * 1001)
        self.refuses("large", word_number, full, ((1, 0),) * 1001)
        self.assertEqual(word_number(full, ((1, 0),) * 1000), 1)
        self.assertEqual(word_path(full, ((0, 1),) * 59)[0], 60)
        self.refuses("large", word_path, full, ((0, 1),) * 60)
        # Letters of tables of the arity 1 stay where they are.
        self.assertEqual(word_path(full, ((1, 0),) * 2000 + ((0, 0),) * 59)[0], 60)
        self.malformed(word_path, full, ((0, 1),) * 60 + ((2, 0),))
        self.malformed(word_number, full, ((0, 0),) * 1001 + ((1, 1),))

    def test_malformed(self):
        for value in NO_STRUCTURES + [NOT_BINARY]:
            self.malformed(kind_letters, value)
            self.malformed(letter_rows, value, (0, 0))
            self.malformed(word_path, value, ())
            self.malformed(word_number, value, ())
        for letter in WRONG + ((0, 2), (0, -1), (3, 0), (-1, 0), (1, 1), [0, 0], (0,), (0, 0, 0), (True, 0), (0, False),
                               ("0", 0), (10 ** 60, 0), ((0, 0),)):
            if letter not in ((0, 0), (0, 1)):
                self.malformed(letter_rows, MIXED, letter)
                self.malformed(word_path, MIXED, (letter,))
                self.malformed(word_number, MIXED, ((0, 0), letter))
        for word in (None, True, 3, "a", [], [(0, 0)], ((0, 0), [0, 0]), (0, 0), {}):
            self.malformed(word_path, MIXED, word)
            self.malformed(word_number, MIXED, word)


class Within(Case):
    def test_against_all_words(self):
        found = {True: 0, False: 0}
        for A, B in PAIRS:
            letters = kind_letters(A)
            most = 6 if len(letters) < 3 else 4
            told = word_within(A, B)
            apart = [word for word in all_words(letters, most)
                     if plain_word_number(A, word) > 0 and plain_word_number(B, word) == 0]
            found[told is None] += 1
            if told is None or len(told) > most:
                self.assertEqual(apart, [])
            if told is not None:
                self.assertNotEqual(word_number(A, told), 0)
                self.assertEqual(word_number(B, told), 0)
            if apart:
                self.assertEqual(told, apart[0])
        self.assertGreater(min(found.values()), 40)

    def test_edges(self):
        empty, one = (0, ((2, ()),)), (1, ((2, ()),))
        self.assertEqual((word_within(one, empty), word_within(empty, one), word_within(empty, empty)), ((), None, None))
        self.assertEqual(word_within(directed_path(40), directed_path(10)), ((0, 0),) * 10)
        self.assertIsNone(word_within(directed_path(10), directed_path(10)))
        # A marked point on each ring: the walk goes through many sets before all are left.
        rings = (10, ((2, directed(2, 3, 5)[1][0][1]), (1, ((0,), (2,), (5,)))))
        loop = (1, ((2, ((0, 0),)), (1, ((0,),))))
        word = word_within(loop, rings)
        self.assertEqual((word_number(loop, word), word_number(rings, word)), (1, 0))
        for shorter in all_words(kind_letters(loop), 4):
            self.assertTrue(plain_word_number(rings, shorter) > 0 or len(word) <= len(shorter))

    def test_bounds(self):
        kind = ((2, ()),)
        self.assertIsNone(word_within((40, kind), (10, kind)))
        self.refuses("large", word_within, (41, kind), (10, kind))
        self.refuses("large", word_within, (40, kind), (11, kind))
        self.malformed(word_within, (41, ((3, ()),)), (41, ((3, ()),)))
        self.malformed(word_within, (41, kind), (41, ((1, ()),)))
        self.malformed_pairs(word_within, NO_STRUCTURES + [NOT_BINARY], MIXED)

    def test_great_walk(self):
        rng = random.Random(5)
        A, B = brute.structure(rng, (2,) * 6, 40, 120), brute.structure(rng, (2,) * 6, 10, 45)
        word = word_within(A, B)
        self.assertEqual(word_number(B, word), 0)
        self.assertGreater(word_number(A, word), 0)


class Apart(Case):
    def test_against_all_words(self):
        found = {True: 0, False: 0}
        for A, B in PAIRS:
            letters = kind_letters(A)
            most = 5 if len(letters) < 3 else 3
            told = word_apart(A, B)
            found[told is None] += 1
            apart = [word for word in all_words(letters, most) if plain_word_number(A, word) != plain_word_number(B, word)]
            if told is not None:
                self.assertLess(len(told), A[0] + B[0])
                self.assertNotEqual(word_number(A, told), word_number(B, told))
            if apart or told is None or len(told) <= most:
                self.assertEqual(told, apart[0] if apart else None)
            self.check_matrix(A, B, told)
        self.assertGreater(min(found.values()), 100)

    def check_matrix(self, A, B, word):
        X = path_matrix(A, B)
        self.assertIs(X is None, word is not None)
        if X is None:
            return
        self.assertTrue(isinstance(X, tuple) and len(X) == A[0] and all(len(row) == B[0] for row in X))
        M = [[Fraction(*a) for a in row] for row in X]
        self.assertEqual(X, tuple(tuple((a.numerator, a.denominator) for a in row) for row in M))
        self.assertTrue(all(sum(row) == 1 for row in M))
        self.assertTrue(all(sum(row[y] for row in M) == 1 for y in range(B[0])))
        if A[0] > 0:
            for letter in kind_letters(A):
                self.assertEqual(plain_product(plain_letter(A, letter), M), plain_product(M, plain_letter(B, letter)))

    def test_told_matrix(self):
        # The matrix of point 8.5 is told: it takes all columns that are orthogonal to those of words to 0.
        self.assertEqual(path_matrix(directed(6), directed(3, 3)), (((1, 6),) * 6,) * 6)
        one = (2, ((1, ((0,),)),))
        self.assertEqual(path_matrix(one, one), (((1, 1), (0, 1)), ((0, 1), (1, 1))))
        path = brute.graph(3, [(0, 1), (1, 2)])
        half = (1, 2)
        self.assertEqual(path_matrix(path, path), ((half, (0, 1), half), ((0, 1), (1, 1), (0, 1)), (half, (0, 1), half)))
        self.assertEqual(path_matrix((0, ((2, ()),)), (0, ((2, ()),))), ())
        self.assertEqual(path_matrix((2, ()), (2, ())), ((half, half), (half, half)))
        # Not all fractions are from 0 to 1: two graphs with as many walks of each length, and unlike degrees.
        A = beside(brute.graph(1, []), ring(6))
        self.assertIsNotNone(word_apart(A, brute.graph(7, [(0, k) for k in range(1, 7)])))

    def test_unique(self):
        # P times the inverse of G times the turned Q, with other words that span the same space.
        for A, B in PAIRS:
            X = path_matrix(A, B)
            if X is None or A[0] == 0:
                continue
            words = [word for word in all_words(kind_letters(A), 3)]
            ones, twos = [], []
            for word in words:
                column, other = [1] * A[0], [1] * B[0]
                for letter in reversed(word):
                    column = [sum(a * b for a, b in zip(row, column)) for row in plain_letter(A, letter)]
                    other = [sum(a * b for a, b in zip(row, other)) for row in plain_letter(B, letter)]
                ones.append(column)
                twos.append(other)
            for one, two in zip(ones, twos):
                led = [sum(Fraction(*a) * b for a, b in zip(row, two)) for row in X]
                self.assertEqual(led, one)

    def test_bounds(self):
        kind = ((2, ()),)
        self.assertEqual(len(path_matrix((16, kind), (16, kind))), 16)
        for ask in (word_apart, path_matrix):
            self.refuses("large", ask, (17, kind), (16, kind))
            self.refuses("large", ask, (16, kind), (17, kind))
            self.malformed(ask, (17, kind), (17, ((1, ()),)))
            self.malformed(ask, NOT_BINARY, NOT_BINARY)
            self.malformed_pairs(ask, NO_STRUCTURES + [NOT_BINARY], MIXED)
        self.assertEqual(word_apart((16, kind), (15, kind)), ())

    def test_great_structures(self):
        rng = random.Random(3)
        A = brute.structure(rng, (2, 2, 1), 16, 60)
        B = shuffled(A, rng)
        self.check_matrix(A, B, word_apart(A, B))
        self.assertIsNotNone(path_matrix(A, B))
        far = directed_path(16), beside(directed_path(15), directed_path(1))
        self.assertEqual(word_apart(*far), ((0, 0),))


class Cycles(Case):
    def test_closed_rows(self):
        for seed in range(120):
            rng = random.Random(seed)
            A = brute.structure(rng, (2,), rng.randint(0, 4), 8)
            self.assertEqual(closed_row(A, 5), tuple(hom(cycle_graph(k), A) for k in range(1, 6)))
            M = plain_letter(A, (0, 0))
            n = A[0]
            for x in (0, 1, -2, 5):
                value = plain_determinant([[x * (i == j) - M[i][j] for j in range(n)] for i in range(n)])
                self.assertEqual(sum(c * x ** (n - k) for k, c in enumerate(spectrum_row(A))), value)
            self.assertEqual(len(spectrum_row(A)), n + 1)
        self.assertEqual(closed_row(ring(5), 0), ())
        self.assertEqual(closed_row((0, ((2, ()),)), 3), (0, 0, 0))
        self.assertEqual(closed_row(ring(24), 60)[:3], (0, 48, 0))
        self.assertEqual(closed_row((1, ((2, ((0, 0),)),)), 60), (1,) * 60)
        self.assertEqual(spectrum_row((0, ((2, ()),))), (1,))
        self.assertEqual(spectrum_row((20, ((2, ()),))), (1,) + (0,) * 20)
        self.assertEqual(spectrum_row(directed(3)), (1, 0, 0, -1))
        self.assertEqual(told_by_traces((1, 1)), (1, -1, 0))

    def test_cycle_graphs(self):
        self.assertEqual((cycle_graph(1), cycle_graph(2)), ((1, ((2, ((0, 0),)),)), (2, ((2, ((0, 1), (1, 0))),))))
        self.assertEqual(cycle_graph(4), (4, ((2, ((0, 1), (1, 2), (2, 3), (3, 0))),)))
        self.assertEqual(cycle_graph(60)[0], 60)
        self.assertTrue(plain_structure(cycle_graph(60)))
        for k in (0, 61, -1, True, None, "3", (3,), [], 10 ** 60):
            self.malformed(cycle_graph, k)

    def test_within(self):
        found = 0
        for seed in range(300):
            rng = random.Random(seed)
            A = brute.structure(rng, (2,), rng.randint(0, 5), 7)
            B = brute.structure(rng, (2,), rng.randint(0, 5), 7)
            one, two = closed_row(A, 60), closed_row(B, 60)
            apart = [k + 1 for k in range(60) if one[k] > 0 and two[k] == 0]
            told = cycle_within(A, B)
            found += told is not None
            self.assertEqual(told, apart[0] if apart else None)
        self.assertGreater(found, 60)
        self.assertEqual(cycle_within(directed(5, 7), directed(4, 8)), 5)
        # A ring of 12 points has no closed walk below 12; a loop has all lengths.
        self.assertEqual(cycle_within(directed(12), directed(11)), 12)
        self.assertEqual(cycle_within(directed(1), directed(1, 2, 3)), None)
        self.assertEqual(cycle_within(directed(6), directed(2, 3)), None)
        late = (12, ((2, tuple(sorted(directed(12)[1][0][1] + ((0, 2),)))),))
        one, two = closed_row(late, 60), closed_row(directed(11), 60)
        self.assertEqual(cycle_within(late, directed(11)), min(k + 1 for k in range(60) if one[k] and not two[k]))
        empty = (0, ((2, ()),))
        self.assertEqual((cycle_within(empty, empty), cycle_within(directed(3), empty)), (None, 3))

    def test_far_lengths(self):
        A = directed(7, 5)
        B = (12, ((2, tuple(sorted([(i, i + 1) for i in range(11)] + [(11, 0), (10, 0)]))),))
        one, two = closed_row(A, 60), closed_row(B, 60)
        self.assertEqual(cycle_within(A, B), min(k + 1 for k in range(60) if one[k] and not two[k]))
        # Here the same pairs of lengths come back only after 24 and 12 steps.
        self.assertEqual(cycle_within(directed(8, 3), directed(8, 3)), None)
        self.assertEqual(cycle_within(directed(4, 3), directed(2, 3)), None)
        self.assertEqual(cycle_within(directed(2, 3), directed(4, 3)), 2)

    def test_bounds(self):
        kind = ((2, ()),)
        self.assertEqual(closed_row((24, kind), 60), (0,) * 60)
        self.refuses("large", closed_row, (25, kind), 60)
        self.refuses("large", closed_row, (24, kind), 61)
        self.refuses("large", spectrum_row, (21, kind))
        self.assertIsNone(cycle_within((12, kind), (12, kind)))
        self.refuses("large", cycle_within, (13, kind), (1, kind))
        self.refuses("large", cycle_within, (1, kind), (13, kind))
        for most in (-1, True, None, "1", (1,), -10 ** 60):
            self.malformed(closed_row, (25, kind), most)
        self.refuses("large", closed_row, (1, kind), 10 ** 60)

    def test_malformed(self):
        others = [(1, ()), (1, ((1, ()),)), (1, ((2, ()), (2, ()))), (1, ((3, ()),)), (30, ((2, ()), (1, ())))]
        for value in NO_STRUCTURES + others:
            self.malformed(closed_row, value, 1)
            self.malformed(spectrum_row, value)
            self.malformed(grid_number, value, 1, 1)
        self.malformed_pairs(cycle_within, NO_STRUCTURES + others, ring(3))


class Grids(Case):
    def test_graphs(self):
        self.assertEqual(grid_graph(1, 1), (1, ((2, ()),)))
        self.assertEqual(grid_graph(3, 1), directed_path(3))
        self.assertEqual(grid_graph(1, 3), directed_path(3))
        self.assertEqual(grid_graph(2, 2), (4, ((2, ((0, 1), (0, 2), (1, 3), (2, 3))),)))
        for r, k in itertools.product(range(1, 6), repeat=2):
            rows = set()
            for i, j in itertools.product(range(r), range(k)):
                rows |= {(r * j + i, r * j + i + 1)} if i < r - 1 else set()
                rows |= {(r * j + i, r * (j + 1) + i)} if j < k - 1 else set()
            self.assertEqual(grid_graph(r, k), (r * k, ((2, tuple(sorted(rows))),)))
        self.assertEqual(grid_graph(6, 10)[0], 60)
        self.assertEqual(grid_graph(60, 1), directed_path(60))
        for r, k in ((61, 1), (1, 61), (8, 8), (10 ** 60, 10 ** 60)):
            self.refuses("large", grid_graph, r, k)

    def test_numbers(self):
        for seed in range(80):
            rng = random.Random(seed)
            A = brute.structure(rng, (2,), rng.randint(0, 4), 12)
            for r, k in ((1, 1), (1, 4), (4, 1), (2, 2), (3, 2), (2, 3)):
                self.assertEqual(grid_number(A, r, k), map_number(grid_graph(r, k), A))
            for r, k in ((1, 2), (2, 1), (2, 2)):
                self.assertEqual(grid_number(A, r, k), hom(grid_graph(r, k), A))
        self.assertEqual(grid_number((0, ((2, ()),)), 3, 2), 0)
        self.assertEqual(grid_number((1, ((2, ((0, 0),)),)), 30, 30), 1)

    def test_bounds(self):
        full = (10, ((2, tuple(itertools.product(range(10), repeat=2))),))
        self.assertEqual(grid_number(full, 3, 30), 10 ** 90)
        self.refuses("large", grid_number, full, 4, 1)
        self.refuses("large", grid_number, (32, ((2, ()),)), 2, 1)
        self.assertEqual(grid_number((31, ((2, ()),)), 2, 1), 0)
        for r, k in ((31, 1), (1, 31), (10 ** 60, 1), (1, 10 ** 60)):
            self.refuses("large", grid_number, (1, ((2, ()),)), r, k)
        for value in (0, -1, True, None, "1", (1,), -10 ** 60):
            for ask in (grid_graph, lambda r, k: grid_number((60, ((2, ()),)), r, k)):
                self.malformed(ask, value, 61)
                self.malformed(ask, 61, value)


if __name__ == "__main__":
    import unittest
    unittest.main()
