"""Turnings, maps up to turnings, foldings and partings: points 9.1 to 9.7."""

import itertools
import random
import unittest

import brute
from brute import WRONG, graph, hom, plain_colours, plain_maps, plain_structure, ring, variants
from cases import Case
from plain import ROOK, SHRIKHANDE, plain_turned, plain_turnings, shuffled
from probeweb.pairing import same_pairs
from probeweb.refining import stable_colouring
from probeweb.sameness import (
    all_foldings, all_turnings, case_parting, class_number_both, class_number_over, class_number_under, folding_apart,
    is_turning, turned_into, turning_chain, turning_number, turning_orbits)
from probeweb.structures import beside, first_numbering, folded_by
from probeweb.turning import MOST_LOOKED_AT, TurningSearch, fixed_count, powers_of, rounds_of

NO_STRUCTURES = [value for value in WRONG if not plain_structure(value)]
EDGE, PATH = graph(2, [(0, 1)]), graph(3, [(0, 1), (1, 2)])
HEXAGON = ring(6)
TRIANGLES = graph(6, [(0, 1), (1, 2), (0, 2), (3, 4), (4, 5), (3, 5)])


def rings(*sizes):
    made = ring(sizes[0])
    for size in sizes[1:]:
        made = beside(made, ring(size))
    return made


def pairs(many=200):
    for seed in range(many):
        rng = random.Random(seed)
        kind = brute.random_kind(rng, (1, 2, 3), 2)
        n = rng.randint(0, 5)
        A = brute.structure(rng, kind, n, rng.choice((3, 6)))
        yield A, brute.structure(rng, kind, rng.choice((n, rng.randint(0, 5))), 5)
        B = shuffled(A, rng)
        yield A, B
        if kind and B[1][0][1]:
            rows = set(B[1][0][1][1:]) | {tuple(rng.randrange(n) for _ in range(kind[0]))}
            yield A, (n, ((kind[0], tuple(sorted(rows))),) + B[1][1:])


def plain_foldings(n):
    return sorted({first_numbering(c) for c in itertools.product(range(n), repeat=n)})


PAIRS = list(pairs())


class Turnings(Case):
    def test_turned_into(self):
        found = {True: 0, False: 0}
        for A, B in PAIRS:
            told = plain_turnings(A, B)
            found[bool(told)] += 1
            self.assertEqual(turned_into(A, B), told[0] if told else None)
            for m in itertools.islice(itertools.permutations(range(A[0])), 30):
                self.assertIs(is_turning(A, B, m), m in told)
        self.assertGreater(min(found.values()), 100)

    def test_groups(self):
        for A, _ in PAIRS[::2]:
            told = plain_turnings(A, A)
            self.assertEqual(all_turnings(A), tuple(told))
            self.assertEqual(turning_number(A), len(told))
            chain = turning_chain(A)
            self.assertEqual(len(chain), A[0])
            for i, link in enumerate(chain):
                fixing = [m for m in told if m[:i] == tuple(range(i))]
                self.assertEqual(link, tuple((j, min(m for m in fixing if m[i] == j)) for j in sorted({m[i] for m in fixing})))
            orbits = sorted({tuple(sorted({m[x] for m in told})) for x in range(A[0])})
            self.assertEqual(turning_orbits(A), tuple(orbits))
            colours = stable_colouring(A)
            self.assertTrue(all(len({colours[x] for x in orbit}) == 1 for orbit in orbits))

    def test_is_turning(self):
        A = (3, ((2, ((0, 1), (1, 2))), (3, ((0, 1, 2),))))
        B = (3, ((2, ((2, 1), (1, 0))[::-1]), (3, ((2, 1, 0),))))
        self.assertIs(is_turning(A, B, (2, 1, 0)), True)
        for value in itertools.chain(variants((2, 1, 0)), WRONG):
            self.assertIs(is_turning(A, B, value), value == (2, 1, 0) and type(value[0]) is int and type(value) is tuple
                          and all(type(x) is int for x in value), value)
        # Each fact goes to a fact, and yet one is left over.
        self.assertIs(is_turning((2, ((2, ()),)), (2, ((2, ((0, 1),)),)), (0, 1)), False)
        self.assertIs(is_turning((2, ((2, ((0, 1),)),)), (2, ((2, ()),)), (0, 1)), False)
        self.assertIs(is_turning((0, ()), (0, ()), ()), True)
        self.assertIs(is_turning((1, ()), (2, ()), (0,)), False)
        self.assertIs(is_turning((1, ()), (1, ()), (False,)), False)
        self.assertIs(is_turning((2, ()), (2, ()), (0, 0)), False)
        self.assertIs(is_turning((2, ((2, ()),)), (2, ((2, ()),)), (1, 1)), False)

    def test_edges(self):
        empty = (0, ((2, ()),))
        self.assertEqual((turned_into(empty, empty), turning_chain(empty), turning_number(empty), turning_orbits(empty),
                          all_turnings(empty)), ((), (), 1, (), ((),)))
        self.assertIsNone(turned_into(empty, EDGE))
        self.assertEqual(turning_number((7, ())), 5040)
        self.assertEqual(len(all_turnings((7, ((3, ()),)))), 5040)
        self.refuses("many", all_turnings, (8, ()))
        self.assertEqual(turning_number((8, ())), 40320)
        self.assertEqual(turning_number((16, ())), 20922789888000)
        self.refuses("many", all_turnings, (16, ()))
        self.assertEqual(turning_orbits((16, ())), (tuple(range(16)),))

    def test_eight_points(self):
        for A in (ring(8), brute.full_graph(8), (8, ((2, tuple((k, k + 1) for k in range(7))),)), rings(4, 4),
                  graph(8, [(x, y) for x in range(8) for y in range(x) if bin(x ^ y).count("1") == 1])):
            told = plain_turnings(A, A) if A != brute.full_graph(8) else range(40320)
            self.assertEqual(turning_number(A), len(told))
            self.assertEqual(turned_into(A, plain_turned(A, (3, 1, 4, 0, 5, 2, 7, 6))) is None, False)

    def test_great_structures(self):
        self.assertEqual((turning_number(ROOK), turning_number(SHRIKHANDE)), (1152, 192))
        self.assertIsNone(turned_into(ROOK, SHRIKHANDE))
        self.assertEqual(len(all_turnings(ROOK)), 1152)
        self.assertEqual(turning_number(graph(16, [(2 * k, 2 * k + 1) for k in range(8)])), 10321920)
        self.assertEqual(turning_number(ring(16)), 32)
        rng = random.Random(8)
        # Facts of three points, seen by no table of pairs: the lines of a plane of three numbers.
        plane = (9, ((3, tuple(sorted(row for row in itertools.product(range(9), repeat=3)
                                      if len(set(row)) == 3 and all(sum(p // d % 3 for p in row) % 3 == 0 for d in (1, 3))))),))
        self.assertEqual(turning_number(plane), 432)
        self.assertIsNotNone(turned_into(plane, shuffled(plane, rng)))
        rows = list(itertools.product(range(16), repeat=3))
        A = (16, ((3, tuple(sorted(rng.sample(rows, 4000)))),))
        m = list(range(16))
        rng.shuffle(m)
        self.assertEqual(turned_into(A, plain_turned(A, m)), tuple(m))

    def test_triples(self):
        # The lines of a space of 15 points, and the same with four of them exchanged: all pairs are alike.
        lines = {tuple(sorted((a, b, a ^ b))) for a in range(1, 16) for b in range(1, 16) if a != b}
        old = {(1, 2, 3), (1, 4, 5), (2, 4, 6), (3, 5, 6)}
        self.assertLessEqual(old, lines)
        new = {(2, 3, 6), (4, 5, 6), (1, 2, 4), (1, 3, 5)}
        A, B = [(15, ((3, tuple(sorted(tuple(p - 1 for p in order) for line in told
                                       for order in itertools.permutations(line)))),)) for told in (lines, lines - old | new)]
        self.assertIsNone(turned_into(A, B))
        self.assertIsNone(turned_into(B, A))
        self.assertEqual((turning_number(A), turning_number(B)), (20160, 192))

    def test_bounds(self):
        large = (17, ((2, ()),))
        for ask in (turning_chain, turning_number, turning_orbits, all_turnings):
            self.refuses("large", ask, large)
            for value in NO_STRUCTURES:
                self.malformed(ask, value)
        self.refuses("large", turned_into, large, EDGE)
        self.refuses("large", turned_into, EDGE, large)
        self.malformed(turned_into, large, (17, ((1, ()),)))
        self.malformed_pairs(turned_into, NO_STRUCTURES, EDGE)
        self.malformed_pairs(is_turning, NO_STRUCTURES, EDGE, ())
        self.assertIs(is_turning((60, ()), (60, ()), tuple(range(60))), True)

    def test_bound_of_the_search(self):
        search = TurningSearch(PATH, PATH)
        search.looked = MOST_LOOKED_AT - 1
        self.assertIsNotNone(search.taken((0,), search.start))
        self.refuses("large", search.taken, (0,), search.start)

    def test_same_pairs(self):
        for A, B in PAIRS[::4]:
            if turned_into(A, B) is not None and all(arity < 3 for arity, _ in A[1]):
                self.assertTrue(same_pairs(A, B))

    def test_document(self):
        self.assertEqual(turning_number(PATH), 2)
        self.assertEqual(turning_chain(PATH),
                         (((0, (0, 1, 2)), (2, (2, 1, 0))), ((1, (0, 1, 2)),), ((2, (0, 1, 2)),)))
        self.assertEqual(turning_number(HEXAGON), 12)
        self.assertEqual((hom(HEXAGON, brute.full_graph(3)), class_number_under(HEXAGON, brute.full_graph(3))), (66, 13))
        other = beside((2, ((2, ((0, 1),)),)), (1, ((2, ()),)))
        told = folding_apart(PATH, beside(EDGE, (1, ((2, ()),))))
        self.assertNotEqual(hom(told, PATH), hom(told, beside(EDGE, (1, ((2, ()),)))))
        folded = folded_by(PATH, (0, 1, 0))
        self.assertEqual((folded, hom(folded, PATH), hom(folded, beside(EDGE, (1, ((2, ()),))))), (EDGE, 4, 2))
        self.assertEqual(hom(folded, other), 0)


class Foldings(Case):
    def test_all(self):
        for n in range(8):
            if n < 7:
                self.assertEqual(list(all_foldings(n)), plain_foldings(n))
        self.assertEqual((all_foldings(0), all_foldings(1), all_foldings(2)), (((),), ((0,),), ((0, 0), (0, 1))))
        self.assertEqual(len(all_foldings(7)), 877)
        for n in (8, -1, True, None, "3", (3,), [], 10 ** 60, -10 ** 60):
            self.malformed(all_foldings, n)

    def test_apart(self):
        found = 0
        for A, B in PAIRS:
            told = folding_apart(A, B)
            expected = None
            for C in (A, B):
                for colouring in plain_foldings(C[0]) if C[0] < 5 and expected is None else ():
                    F = folded_by(C, colouring)
                    if hom(F, A) != hom(F, B):
                        expected = F
                        break
            if A[0] < 5 and B[0] < 5:
                self.assertEqual(told, expected)
            self.assertIs(told is None, bool(plain_turnings(A, B)))
            if told is not None:
                found += 1
                self.assertNotEqual(hom(told, A), hom(told, B))
        self.assertGreater(found, 100)

    def test_bounds(self):
        self.assertEqual(folding_apart((5, ()), (4, ())), (1, ()))
        self.assertIsNone(folding_apart((0, ()), (0, ())))
        self.assertEqual(folding_apart((0, ()), (1, ())), (1, ()))
        self.assertIsNone(folding_apart((5, ((3, ()),)), (5, ((3, ()),))))
        self.refuses("large", folding_apart, (6, ()), (1, ()))
        self.refuses("large", folding_apart, (1, ()), (6, ()))
        self.malformed(folding_apart, (6, ()), (6, ((1, ()),)))
        self.malformed_pairs(folding_apart, NO_STRUCTURES, EDGE)


class Classes(Case):
    def test_against_all_maps(self):
        for seed in range(150):
            rng = random.Random(seed)
            kind = brute.random_kind(rng, (1, 2, 3), 2)
            A = brute.structure(rng, kind, rng.randint(0, 5), 5)
            B = brute.structure(rng, kind, rng.randint(0, 3), 8)
            if seed % 3 == 0:
                A, B = ring(rng.randint(3, 5)), brute.full_graph(rng.randint(1, 3))
            maps, one, two = plain_maps(A, B), plain_turnings(A, A), plain_turnings(B, B)
            points = range(A[0])
            under = {min(tuple(f[m[x]] for x in points) for m in one) for f in maps}
            over = {min(tuple(l[v] for v in f) for l in two) for f in maps}
            both = {min(tuple(l[f[m[x]]] for x in points) for m in one for l in two) for f in maps}
            self.assertEqual((class_number_under(A, B), class_number_over(A, B), class_number_both(A, B)),
                             (len(under), len(over), len(both)))
            for m in rng.sample(one, min(3, len(one))):
                for l in rng.sample(two, min(3, len(two))):
                    fixed = [f for f in maps if all(f[m[x]] == l[f[x]] for x in points)]
                    self.assertEqual(fixed_count(A, B, m, powers_of(l, A[0])), len(fixed))

    def test_rounds(self):
        self.assertEqual(rounds_of((2, 1, 4, 3, 0)), [[0, 2, 4], [1], [3]])
        self.assertEqual(rounds_of(()), [])

    def test_edges(self):
        empty, one = (0, ()), (1, ())
        for ask in (class_number_under, class_number_over, class_number_both):
            self.assertEqual((ask(empty, empty), ask(one, empty), ask(empty, one), ask(one, one)), (1, 0, 1, 1))
            self.refuses("large", ask, (9, ()), (1, ()))
            self.refuses("large", ask, (1, ()), (6, ()))
            self.malformed(ask, (9, ()), (6, ((1, ()),)))
            self.malformed_pairs(ask, NO_STRUCTURES, EDGE)
        # Necklaces of 8 beads of 5 colours.
        self.assertEqual(class_number_under((8, ((2, tuple(sorted((k, (k + 1) % 8) for k in range(8)))),)),
                                            (5, ((2, tuple(itertools.product(range(5), repeat=2))),))), 48915)
        self.assertEqual(class_number_under((7, ()), (5, ())), 330)
        self.assertEqual(class_number_over((8, ()), (5, ())), 1 + 127 + 966 + 1701 + 1050)

    def test_bounds_of_the_numbers(self):
        self.refuses("many", class_number_under, (8, ()), (1, ()))
        self.assertEqual(class_number_over((8, ()), (1, ())), 1)
        self.refuses("many", class_number_both, (8, ()), (1, ()))
        self.refuses("large", class_number_under, (8, ()), (6, ()))
        # 5040 turnings of A alone, and 1000 pairs at most.
        self.assertEqual(class_number_under((7, ()), (1, ())), 1)
        self.refuses("many", class_number_both, (7, ()), (1, ()))
        self.refuses("many", class_number_both, (6, ()), (2, ()))
        self.assertEqual(class_number_both((6, ()), (1, ())), 1)
        self.assertEqual(class_number_both((5, ()), (3, ())), 5)
        self.refuses("many", class_number_both, (5, ()), (4, ()))
        # All points of 8 are joined, and there are few turnings: no other bound is met.
        rows = tuple(sorted((x, y) for x in range(8) for y in range(8) if x < y))
        many = (8, ((2, rows),))
        full = (5, ((2, tuple(itertools.product(range(5), repeat=2))),))
        self.assertEqual(class_number_under(many, full), 5 ** 8)
        self.assertEqual(class_number_over((8, ((2, rows),)), (5, ((2, tuple((x, x) for x in range(5))),))), 1)


class Partings(Case):
    def check(self, A, B):
        rows = case_parting(A, B)
        if rows is None:
            return False
        for k, row in enumerate(rows):
            (one, two), reason = row
            self.assertTrue(isinstance(row, tuple) and len(row) == 2)
            self.assertTrue(len(one) == len(two) == len(set(one)) == len(set(two)))
            self.assertTrue(set(one) <= set(range(A[0])) and set(two) <= set(range(B[0])))
            if reason == ("colours",):
                first = (A[0], A[1] + tuple((1, ((x,),)) for x in one))
                second = (B[0], B[1] + tuple((1, ((x,),)) for x in two))
                colours = plain_colours(first, second, A[0] + B[0])
                self.assertNotEqual(sorted(colours[0]), sorted(colours[1]))
                continue
            word, x, js = reason
            self.assertEqual(word, "cases")
            self.assertTrue(0 <= x < A[0] and x not in one)
            others = [y for y in range(B[0]) if y not in two]
            self.assertEqual(len(js), len(others))
            for y, j in zip(others, js):
                self.assertTrue(0 <= j < k)
                self.assertEqual(rows[j][0], (one + (x,), two + (y,)))
        self.assertEqual(rows[-1][0], ((), ()))
        return True

    def test_pairs(self):
        found = {True: 0, False: 0}
        for A, B in PAIRS:
            apart = not plain_turnings(A, B)
            found[apart] += 1
            self.assertIs(self.check(A, B), apart)
        self.assertGreater(min(found.values()), 100)

    def test_regular_graphs(self):
        rng = random.Random(2)
        for one, two in (((6,), (3, 3)), ((6, 6), (3, 3, 3, 3)), ((3, 3, 6), (6, 6)), ((12,), (4, 4, 4)), ((5, 7), (4, 8))):
            A, B = rings(*one), rings(*two)
            self.assertTrue(self.check(A, B))
            self.assertFalse(self.check(A, shuffled(A, rng)))
            self.assertFalse(self.check(B, shuffled(B, rng)))
        lone = (6, ((2, ()),))
        self.assertTrue(self.check(beside(HEXAGON, lone), beside(lone, TRIANGLES)))
        self.assertEqual(len(case_parting(HEXAGON, TRIANGLES)), 7)

    def test_bounds(self):
        self.assertEqual(case_parting((12, ()), (11, ())), ((((), ()), ("colours",)),))
        self.assertIsNone(case_parting((12, ((3, ()),)), (12, ((3, ()),))))
        self.assertIsNone(case_parting((0, ()), (0, ())))
        self.assertTrue(self.check((0, ()), (1, ())))
        # More than 400 facts, and six tables already: no bound of chapter 6 is met here.
        full = tuple(itertools.product(range(8), repeat=3))
        A = (8, ((3, full[:-1]),) * 6)
        self.assertIsNone(case_parting(A, A))
        self.assertTrue(self.check((8, ((1, ()),) * 6), (8, ((1, ()),) * 5 + ((1, ((0,),)),))))
        self.refuses("large", case_parting, (13, ()), (1, ()))
        self.refuses("large", case_parting, (1, ()), (13, ()))
        self.malformed(case_parting, (13, ()), (13, ((1, ()),)))
        self.malformed_pairs(case_parting, NO_STRUCTURES, EDGE)


if __name__ == "__main__":
    unittest.main()
