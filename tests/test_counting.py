"""Numbers of maps that are not listed: told inputs that took long, and their like, held against plain answers."""

import itertools
import random
import unittest

import brute
from brute import full_graph, graph, plain_maps, plain_structure, ring
from cases import Case
from plain import shuffled
from probeweb.colourings import stable_row
from probeweb.counting import MapCount, listed_maps, unlike_number
from probeweb.maps import all_maps, injection_number, map_number
from probeweb.operations import all_operations, operation_number
from probeweb.solving import MapSearch
from probeweb.structures import beside, facts_at, is_structure, joined_points


def dots(n):
    return (n, ((2, ()),))


def pairs(many, arities=(1, 2, 3), least=0, most=4):
    for seed in range(many):
        rng = random.Random(seed)
        arity = brute.random_kind(rng, arities, 3)
        A = brute.structure(rng, arity, rng.randint(least, most), 5)
        yield A, brute.structure(rng, arity, rng.randint(least, most), rng.choice((4, 12, 40)))


class Injections(unittest.TestCase):
    def test_by_chance(self):
        for A, B in pairs(300):
            told = sum(len(set(f)) == len(f) for f in plain_maps(A, B))
            self.assertEqual(injection_number(A, B), told)
            if A[0] <= B[0]:
                self.assertEqual(unlike_number(A, B), told)

    def test_symmetric_targets(self):
        # Values that can be exchanged are counted together, and only these.
        for seed in range(120):
            rng = random.Random(seed)
            n = rng.randint(2, 5)
            B = shuffled(graph(n, [(x, y) for x in range(n) for y in range(x) if (x < n // 2) == (rng.random() < 0.9)]), rng)
            A = brute.structure(rng, (2,), rng.randint(1, 4), 5)
            told = sum(len(set(f)) == len(f) for f in plain_maps(A, B))
            self.assertEqual(injection_number(A, B), told)

    def test_great(self):
        eight = full_graph(8)
        self.assertEqual(injection_number(eight, eight), 40320)
        self.assertEqual(injection_number(dots(8), eight), 40320)
        self.assertEqual(injection_number(ring(8), eight), 40320)
        less = graph(8, [(x, y) for x in range(8) for y in range(x) if (x, y) != (5, 2)])
        self.assertEqual((injection_number(less, less), injection_number(eight, less)), (2 * 720, 0))
        # All points but one of the two that are not joined; all sets of six points without one of them.
        self.assertEqual(injection_number(full_graph(7), less), 2 * 5040)
        self.assertEqual(injection_number(full_graph(6), less), (28 - 15) * 720)
        self.assertEqual(injection_number(ring(8), ring(8)), 16)


class Many(Case):
    def test_told(self):
        self.refuses("many", all_maps, dots(24), dots(8))
        self.refuses("many", all_maps, ring(24), full_graph(8))
        self.refuses("many", all_operations, (2, ()), 5)
        order = (4, ((2, tuple((x, y) for x in range(4) for y in range(x, 4))),))
        self.refuses("many", all_operations, order, 2)
        self.refuses("many", operation_number, order, 2)
        # They are counted in a few steps.
        for A, B in ((dots(24), dots(8)), (ring(24), full_graph(8))):
            count = MapCount(MapSearch(A, B), 20000)
            self.assertTrue(count.is_beyond())
            self.assertLess(count.steps, 1500)

    def test_bounds(self):
        # Four points with five values each and five with two of them: 20000 maps, and a value more.
        rows = ((1, ((4,), (5,), (6,), (7,), (8,))),)
        B = (5, ((1, ((0,), (1,))),))
        told = all_maps((9, rows), B)
        self.assertEqual((len(told), len(set(told)), list(told) == sorted(told)), (20000, 20000, True))
        self.assertEqual(told[-1], (4,) * 4 + (1,) * 5)
        more = (10, ((1, ((4,), (5,), (6,), (7,), (8,), (9,))),))
        self.assertEqual(map_number(more, B), 40000)
        self.refuses("many", all_maps, more, B)
        for many, right in ((1000, 1000), (1001, 1001), (999, None)):
            search = MapSearch((3, ((2, ()),)), dots(10))
            if right is None:
                self.refuses("many", listed_maps, search, many)
            else:
                self.assertEqual(len(listed_maps(search, many)), 1000)

    def test_by_chance(self):
        beyond = 0
        for A, B in pairs(250, most=5):
            maps = plain_maps(A, B) if B[0] ** A[0] <= 1024 else None
            if maps is None:
                continue
            self.assertEqual(all_maps(A, B), tuple(maps))
            for most in (0, 1, 3, 10, 1001, len(maps), max(len(maps) - 1, 0)):
                search = MapSearch(A, B)
                count = MapCount(search, most)
                self.assertIs(count.is_beyond(), len(maps) > most)
                beyond += len(maps) > most
                if len(maps) > most:
                    self.refuses("many", listed_maps, MapSearch(A, B), most)
                else:
                    self.assertEqual(listed_maps(search, most), tuple(maps))
        self.assertGreater(beyond, 50)

    def test_three_points(self):
        # With one point of a fact held, the two others may be left with the same lists and with other maps.
        for seed in range(150):
            rng = random.Random(seed)
            A = brute.structure(rng, (3,), 6, 4)
            B = brute.structure(rng, (3,), 3, rng.choice((12, 16, 20)))
            maps = plain_maps(A, B)
            if maps:
                self.assertTrue(MapCount(MapSearch(A, B), len(maps) - 1).is_beyond())
                self.assertFalse(MapCount(MapSearch(A, B), len(maps)).is_beyond())


class Checks(unittest.TestCase):
    def test_great_structures(self):
        every = list(itertools.product(range(60), repeat=3))
        rows = tuple(sorted(random.Random(1).sample(every, 4000)))
        A = (60, ((3, rows),) * 6)
        self.assertTrue(is_structure(A) and plain_structure(A))
        self.assertEqual(facts_at(A, 59), tuple(
            (t, place, row) for t in range(6) for place in range(3) for row in rows if row[place] == 59))
        self.assertEqual(joined_points(A)[0], tuple(sorted({y for row in rows if 0 in row for y in row} - {0})))
        small = (0, ((3, ()),) * 6)
        self.assertEqual((beside(A, small), beside(small, A)), (A, A))
        # One row that is spoilt, at any place.
        rng = random.Random(2)
        for wrong in ((0, 0, 60), (0, -1, 0), (0, 0), (0, 0, 0, 0), (True, 0, 0), (0, None, 0), [0, 0, 0], (0, 0, "0"), 5, None, ((0,), 0, 0),
                      (0, 10 ** 60, 0), (0, 0, 1.0)):
            k = rng.randrange(4000)
            for told in (rows[:k] + (wrong,) + rows[k + 1:], (wrong,) + rows[1:], rows[:-1] + (wrong,)):
                value = (60, ((3, rows), (3, told)))
                self.assertIs(is_structure(value), False)
                self.assertFalse(plain_structure(value))
        for told in (rows[1:] + rows[:1], rows[:1] + rows[:-1], rows[::-1], rows + ((59, 59, 59), (59, 59, 59))):
            self.assertIs(is_structure((60, ((3, told),))), False)

    def test_stable_rows(self):
        bell = (0, 1, 511, 9330, 34105, 42525, 22827, 5880, 750, 45, 1)
        self.assertEqual(stable_row(dots(10)), bell)
        self.assertEqual(stable_row(dots(0)), (1,))
        for seed in range(40):
            rng = random.Random(seed)
            n = rng.randint(0, 6)
            edges = [edge for edge in itertools.combinations(range(n), 2) if rng.random() < 0.4]
            told = [0] * (n + 1)
            for parting in foldings(n):
                if all(parting[x] != parting[y] for x, y in edges):
                    told[len(set(parting))] += 1
            self.assertEqual(stable_row(graph(n, edges)), tuple(told))


def foldings(n):
    rows = [()]
    for _ in range(n):
        rows = [row + (c,) for row in rows for c in range(max(row, default=-1) + 2)]
    return rows


if __name__ == "__main__":
    unittest.main()
