"""Operations, the tables that they keep, and definable tables: points 10.1 to 10.6."""

import itertools
import random
import unittest

import brute
from brute import WRONG, deep, full_graph, plain_integer, plain_maps, plain_structure, plain_tuple, ring, variants
from cases import Case
from plain import is_of_kind, plain_keeps, plain_operations
from probeweb.instances import all_rows, special_instance
from probeweb.operations import (
    all_operations, breaking_operation, defined_rows, is_kept_by, is_operation, keeps_rows, operation_at,
    operation_number, projected_at, put_together, special_operation)
from probeweb.structures import beside, is_structure, kind_of, power_structure

NO_STRUCTURES = [value for value in WRONG if not plain_structure(value)] + [(0, ()), (0, ((2, ()),))]
ORDER = (2, ((2, ((0, 0), (0, 1), (1, 1))),))
EDGE = full_graph(2)
WORDS = {"semilattice": 2, "majority": 3, "maltsev": 3, "minority": 3, "constant": 1}
NO_NUMBERS = (0, 6, -1, True, False, None, "2", (2,), [2], 10 ** 60, -10 ** 60)
NO_DOMAINS = (0, 61, -1, True, False, None, "2", (2,), 10 ** 60, -10 ** 60)


def templates(many, sizes=(1, 2, 2, 3), rows=5):
    for seed in range(many):
        rng = random.Random(seed)
        kind = brute.random_kind(rng, (1, 2, 3), 2)
        yield rng, brute.structure(rng, kind, rng.choice(sizes), rows)


class Single(Case):
    def test_values(self):
        f = (0, 0, 0, 1)
        self.assertEqual([operation_at(f, 2, row) for row in itertools.product(range(2), repeat=2)], [0, 0, 0, 1])
        g = tuple((2 * x + y) % 3 for x in range(3) for y in range(3))
        for x, y in itertools.product(range(3), repeat=2):
            self.assertEqual(operation_at(g, 3, (x, y)), (2 * x + y) % 3)
        self.assertEqual(operation_at(tuple(range(60)), 60, (59,)), 59)
        self.assertEqual(operation_at((0,) * 31 + (1,), 2, (1,) * 5), 1)
        self.assertEqual(operation_at((0,), 1, (0,) * 5), 0)

    def test_is_operation(self):
        for value in itertools.chain(variants((0, 1, 1, 0)), WRONG):
            right = plain_tuple(value) and len(value) == 4 and all(plain_integer(v) and v in (0, 1) for v in value)
            self.assertIs(is_operation(value, 2, 2), right, value)
        self.assertIs(is_operation((0,) * 60, 60, 1), True)
        self.assertIs(is_operation((60,) * 60, 60, 1), False)
        self.assertIs(is_operation((0,), 1, 5), True)
        self.assertIs(is_operation((0,) * 49, 7, 2), True)
        self.assertIs(is_operation((0,) * 48, 7, 2), False)

    def test_projections(self):
        for n, k in ((1, 1), (1, 5), (2, 1), (2, 3), (2, 5), (3, 3), (7, 2), (60, 1)):
            rows = list(itertools.product(range(n), repeat=k))
            for i in range(1, k + 1):
                self.assertEqual(projected_at(n, k, i), tuple(row[i - 1] for row in rows))
            for i in (0, k + 1, -1, True, None, "1", (1,), 10 ** 60):
                self.malformed(projected_at, n, k, i)
        self.assertEqual(all_rows(2, 2), [(0, 0), (0, 1), (1, 0), (1, 1)])

    def test_put_together(self):
        for seed in range(100):
            rng = random.Random(seed)
            n, k, l = rng.choice(((2, 2, 2), (2, 1, 3), (2, 3, 1), (3, 2, 3), (3, 1, 1), (1, 2, 2), (7, 2, 2), (2, 2, 5)))
            f = tuple(rng.randrange(n) for _ in range(n ** k))
            inner = tuple(tuple(rng.randrange(n) for _ in range(n ** l)) for _ in range(k))
            made = put_together(f, n, k, inner)
            if n > 1:
                for row in itertools.product(range(n), repeat=l):
                    at = tuple(operation_at(g, n, row) for g in inner)
                    self.assertEqual(operation_at(made, n, row), operation_at(f, n, at))
            self.assertEqual(len(made), n ** l)
        f, g = (0, 0, 0, 1), (1, 0)
        self.assertEqual(put_together(f, 2, 2, (g, g)), (1, 0))
        for inner in ((g,), (g, g, g), [g, g], (g, f), (f, g), (g, (1, 0, 1)), (g, [1, 0]), (g, (1, 2)), (g, (True, 0)),
                      (), None, 5, "ab", ((0,), (0,)), ((0,) * 64,) * 2):
            self.malformed(put_together, f, 2, 2, inner)
        for f in (None, (0, 0), (0, 0, 0, 2), [0, 0, 0, 1], (0, 0, 0, True), ()):
            self.malformed(put_together, f, 2, 2, (g, g))

    def test_errors_in_order(self):
        asks = (lambda n, k: is_operation((), n, k), lambda n, k: projected_at(n, k, 0),
                lambda n, k: keeps_rows(None, n, k, None), lambda n, k: put_together(None, n, k, None))
        for ask in asks:
            for k in NO_NUMBERS:
                self.malformed(ask, 60, k)
            for n in NO_DOMAINS:
                self.malformed(ask, n, 5)
            for n, k in ((60, 2), (60, 5), (8, 2), (4, 3), (3, 4), (3, 5)):
                self.refuses("large", ask, n, k)
        for n, k in ((60, 1), (7, 2), (3, 3), (2, 5), (2, 4), (1, 5)):
            self.assertIs(is_operation((), n, k), False)
            self.malformed(projected_at, n, k, 0)

    def test_operation_at_errors(self):
        for n in NO_DOMAINS:
            self.malformed(operation_at, None, n, (0,))
        for row in ((), (0,) * 6, [0], (2,), (-1,), (True,), None, 3, "0", ((0,),), (0, 10 ** 60)):
            self.malformed(operation_at, None, 2, row)
        self.refuses("large", operation_at, None, 8, (0, 0))
        self.refuses("large", operation_at, (0,) * 64, 8, (0, 0))
        for f in (None, (0,), (0, 0, 0), (0, 2), [0, 0], (0, True), ((0,), (0,))):
            self.malformed(operation_at, f, 2, (0,))
        self.malformed(operation_at, None, 8, (8, 0))


class Keeping(Case):
    def test_keeps_rows(self):
        found = {True: 0, False: 0}
        for seed in range(400):
            rng = random.Random(seed)
            n, k = rng.choice(((2, 1), (2, 2), (2, 3), (3, 1), (3, 2), (1, 3)))
            size = rng.randint(1, 3)
            rows = [tuple(rng.randrange(n) for _ in range(size)) for _ in range(rng.randint(0, 4))]
            f = tuple(rng.randrange(n) for _ in range(n ** k))
            if seed % 3 == 0:
                f = projected_at(n, k, rng.randint(1, k))
            told = not rows or plain_keeps(f, n, k, rows)
            found[told] += 1
            self.assertIs(keeps_rows(f, n, k, rows), told)
            self.assertIs(keeps_rows(f, n, k, tuple(rows)), told)
        self.assertGreater(min(found.values()), 60)

    def test_great_tables(self):
        full = list(itertools.product(range(3), repeat=3))
        self.assertIs(keeps_rows((0,) * 27, 3, 3, full), True)
        self.assertIs(keeps_rows((0,) * 27, 3, 3, full[1:]), False)
        self.assertIs(keeps_rows((0,) * 32, 2, 5, list(itertools.product(range(2), repeat=3))[1:]), False)
        self.assertIs(keeps_rows(tuple(range(60)), 60, 1, [(x, y, 59) for x in range(60) for y in range(60)]), True)

    def test_wrong_tables(self):
        for rows in (None, 3, "ab", {}, ((),), ((0,), (0, 1)), ((0, 0, 0, 0),), ((2,),), ([0],), ((True,),), (0,), [None],
                     ((0,), None), ((-1,),), ((10 ** 60,),)):
            self.malformed(keeps_rows, (0, 1), 2, 1, rows)
        self.assertIs(keeps_rows((0, 1), 2, 1, ()), True)
        self.assertIs(keeps_rows((0, 1), 2, 1, []), True)
        for f in (None, (0,), (0, 2), [0, 1], (0, True), (0, 1, 0)):
            self.malformed(keeps_rows, f, 2, 1, ())
            self.malformed(is_kept_by, ORDER, f, 1)

    def test_is_kept_by(self):
        for rng, B in templates(150):
            k = rng.choice((1, 2))
            f = tuple(rng.randrange(B[0]) for _ in range(B[0] ** k))
            told = all(not rows or plain_keeps(f, B[0], k, rows) for _, rows in B[1])
            self.assertIs(is_kept_by(B, f, k), told)


class Operations(Case):
    def test_all(self):
        for rng, B in templates(120):
            for k in (1, 2, 3):
                if B[0] ** B[0] ** k <= 256 or (B[0], k) == (3, 1):
                    told = plain_operations(B, k)
                    self.assertEqual(all_operations(B, k), tuple(told))
                    self.assertEqual(operation_number(B, k), len(told))
                    self.assertEqual(plain_maps(power_structure(B, k), B), told)

    def test_edges(self):
        self.assertEqual(all_operations((1, ((2, ()),)), 5), ((0,),))
        self.assertEqual(operation_number((2, ()), 3), 256)
        self.assertEqual(operation_number((5, ()), 1), 3125)
        # 20000 at most: four free points of ten, one of two values, the others held.
        held = (10, ((1, ((0,), (1,))),) + tuple((1, ((x,),)) for x in (0, 2, 3, 4, 5)))
        self.assertEqual(operation_number(held, 1), 20000)
        self.refuses("many", operation_number, (10, held[1][1:]), 1)
        self.assertEqual(operation_number((2, ((1, ((0,),)), (1, ((1,),)))), 4), 16384)
        self.refuses("many", operation_number, (2, ()), 4)
        self.refuses("many", all_operations, (6, ()), 1)
        self.assertEqual(operation_number((60, ((2, tuple((x, x + 1) for x in range(59))),)), 1), 1)
        self.assertEqual(operation_number((60, ((2, tuple(sorted((x, (x + 1) % 60) for x in range(60)))),)), 1), 60)

    def test_bounds(self):
        rows = tuple(itertools.product(range(7), repeat=2))
        self.refuses("many", all_operations, (7, ((2, rows),)), 2)
        many = tuple(itertools.product(range(7), repeat=3))
        # 63 rows to the power 2 are below 4000, 64 are not; 15 and 16 for the power 3.
        self.refuses("many", all_operations, (7, ((3, many[:63]),)), 2)
        for ask in (all_operations, operation_number, lambda B, k: is_kept_by(B, None, k)):
            self.refuses("large", ask, (7, ((3, many[:64]),)), 2)
            self.refuses("large", ask, (8, ()), 2)
            self.refuses("large", ask, (60, ()), 2)
            self.refuses("large", ask, (3, ((3, tuple(itertools.product(range(3), repeat=3))[:16]),)), 3)
            for value in NO_STRUCTURES:
                self.malformed(ask, value, 1)
            for k in NO_NUMBERS:
                self.malformed(ask, (60, ()), k)
        self.assertIs(is_kept_by((60, ((3, tuple(itertools.product(range(60), repeat=3))[:4000]),)),
                                 tuple(range(60)), 1), True)
        three = (3, ((3, tuple(itertools.product(range(3), repeat=3))[:15]),))
        self.assertIs(is_kept_by(three, projected_at(3, 3, 2), 3), True)
        self.malformed(is_kept_by, three, (0,) * 26, 3)

    def test_composition(self):
        # Point 10.2: operations put together are operations.
        for rng, B in templates(40, sizes=(2,)):
            one, two = all_operations(B, 2), all_operations(B, 1)
            for f in one[:4]:
                for g, h in itertools.product(two, repeat=2):
                    self.assertIs(is_kept_by(B, put_together(f, 2, 2, (g, h)), 1), True)


class Special(Case):
    def test_against_all_operations(self):
        found = {}
        for rng, B in templates(140):
            for word, k in WORDS.items():
                if B[0] ** B[0] ** k > 20000:
                    continue
                told = [f for f in itertools.product(range(B[0]), repeat=B[0] ** k)
                        if is_of_kind(f, B[0], word) and all(plain_keeps(f, B[0], k, rows) for _, rows in B[1] if rows)]
                self.assertEqual(special_operation(B, word), told[0] if told else None, (B, word))
                found[word, bool(told)] = found.get((word, bool(told)), 0) + 1
        self.assertEqual(len(found), 10)

    def test_three_points(self):
        # The identities leave few values open: all of them are tried.
        free = [at for at, row in enumerate(itertools.product(range(3), repeat=3)) if len(set(row)) == 3]
        for rng, B in templates(25, sizes=(3,), rows=6):
            for word in ("majority", "minority"):
                told = None
                for values in itertools.product(range(3), repeat=6):
                    f = [self.told_value(word, row) for row in itertools.product(range(3), repeat=3)]
                    for at, v in zip(free, values):
                        f[at] = v
                    if all(plain_keeps(f, 3, 3, rows) for _, rows in B[1] if rows):
                        told = tuple(f)
                        break
                self.assertEqual(special_operation(B, word), told)

    def told_value(self, word, row):
        x, y, z = row
        if len(set(row)) == 3:
            return None
        twice = x if x in (y, z) else y
        once = [v for v in row if v != twice]
        return twice if word == "majority" or not once else once[0]

    def test_great_semilattices(self):
        flat = special_operation((7, ()), "semilattice")
        self.assertEqual(flat, tuple(x if x == y else 0 for x in range(7) for y in range(7)))
        order = (7, ((2, tuple((x, y) for x in range(7) for y in range(x, 7))),))
        told = special_operation(order, "semilattice")
        self.assertEqual(told, tuple(min(x, y) for x in range(7) for y in range(7)))
        self.assertIsNone(special_operation((7, ((2, tuple(sorted((x, (x + 1) % 7) for x in range(7)))),)), "semilattice"))
        for seed in range(30):
            rng = random.Random(seed)
            B = brute.structure(rng, rng.choice(((2,), (2, 1), (3,))), rng.randint(4, 7), rng.choice((3, 6, 15)))
            told = special_operation(B, "semilattice")
            if told is not None:
                self.assertTrue(is_of_kind(told, B[0], "semilattice"))
                self.assertIs(is_kept_by(B, told, 2), True)

    def test_all_semilattices_of_four_points(self):
        every = []
        places = [(x, y) for x in range(4) for y in range(x)]
        for values in itertools.product(range(4), repeat=6):
            f = [x if x == y else 0 for x in range(4) for y in range(4)]
            for (x, y), v in zip(places, values):
                f[4 * x + y] = f[4 * y + x] = v
            if is_of_kind(f, 4, "semilattice"):
                every.append(tuple(f))
        every = sorted(every)
        some = [(4, ((3, ((1, 1, 1), (1, 3, 2), (2, 1, 1))),)), (4, ((2, ((0, 2), (2, 1), (3, 1))), (2, ((0, 0), (1, 1), (2, 0))))),
                (4, ((2, ((1, 1), (2, 3))),)), (4, ((3, ((2, 1, 2), (2, 2, 0), (3, 1, 2))),))]
        for seed in range(60):
            rng = random.Random(seed)
            some.append(brute.structure(rng, rng.choice(((2,), (3,), (2, 2))), 4, rng.choice((3, 5, 8))))
        for B in some:
            told = [f for f in every if all(plain_keeps(f, 4, 2, rows) for _, rows in B[1] if rows)]
            self.assertEqual(special_operation(B, "semilattice"), told[0] if told else None)

    def test_constants(self):
        self.assertEqual(special_operation((60, ()), "constant"), (0,) * 60)
        self.assertEqual(special_operation((60, ((2, ((59, 59),)),)), "constant"), (59,) * 60)
        self.assertEqual(special_operation((2, ((1, ((1,),)), (2, ((0, 0), (1, 1))))), "constant"), (1, 1))
        self.assertIsNone(special_operation(ring(60), "constant"))
        self.assertEqual(special_operation((3, ((1, ()),)), "constant"), (0, 0, 0))

    def test_instance(self):
        one, two = special_instance(ORDER, 3, "majority")
        self.assertEqual(kind_of(one), (2, 1, 1))
        self.assertTrue(is_structure(two))
        self.assertEqual((one[1][1], two[1][1:]),
                         ((1, ((0,), (1,), (2,), (4,))), ((1, ((0,),)), (1, ((1,),)))))

    def test_errors(self):
        for word in WORDS:
            for value in NO_STRUCTURES:
                self.malformed(special_operation, value, word)
        for word in ("", "Majority", "majority ", "zero", None, True, 3, ("majority",), ["majority"], "majoritys", deep(60)):
            self.malformed(special_operation, ORDER, word)
            self.malformed(special_operation, (60, ()), word)
        for word, n in (("semilattice", 8), ("majority", 4), ("maltsev", 4), ("minority", 60)):
            self.refuses("large", special_operation, (n, ()), word)
        rows = tuple(itertools.product(range(3), repeat=3))
        for word in ("majority", "maltsev", "minority"):
            self.refuses("large", special_operation, (3, ((3, rows[:16]),)), word)
        self.assertIsNone(special_operation((3, ((3, rows[:15]), (2, ((0, 1), (1, 2), (2, 0))))), "semilattice"))


class Definable(Case):
    def made(self, f, n, rows):
        made = []
        for place in range(len(rows[0])):
            at = 0
            for row in rows:
                at = at * n + row[place]
            made.append(f[at])
        return tuple(made)

    def test_breaking(self):
        found = {True: 0, False: 0}
        for rng, B in templates(250, sizes=(1, 2, 2, 3)):
            n = B[0]
            m = rng.choice((1, 2, 3) if n < 3 else (1, 2))
            every = list(itertools.product(range(n), repeat=rng.randint(1, 3)))
            if len(every) < m or n ** n ** m > 20000:
                continue
            rows = tuple(sorted(rng.sample(every, m)))
            told = [f for f in plain_operations(B, m) if self.made(f, n, rows) not in rows]
            found[bool(told)] += 1
            self.assertEqual(breaking_operation(B, rows), told[0] if told else None)
            # None exactly if all operations keep the table.
            self.assertIs(not told, all(plain_keeps(f, n, m, rows) for f in plain_operations(B, m)))
        self.assertGreater(min(found.values()), 30)

    def test_unlinked_points(self):
        # The rows speak of points of the power that no fact links.
        B = (3, ((2, ((0, 1),)),))
        told = breaking_operation(B, ((2, 0), (2, 1)))
        self.assertEqual(told, min(f for f in plain_operations_of(B) if self.made(f, 3, ((2, 0), (2, 1))) not in ((2, 0), (2, 1))))
        self.assertIsNone(breaking_operation((2, ((2, ((0, 1),)),)), ((0,), (1,))))

    def test_edges(self):
        self.assertEqual(breaking_operation((60, ()), ((0, 0, 0),)), (1,) + (0,) * 59)
        self.assertIsNone(breaking_operation((60, ((2, tuple((x, x + 1) for x in range(59))),)), ((5, 6, 7),)))
        self.assertEqual(breaking_operation(full_graph(3), ((0, 1, 2),)), (0, 2, 1))
        five = tuple(itertools.product(range(2), repeat=3))[:5]
        told = breaking_operation((2, ()), five)
        self.assertNotIn(self.made(told, 2, five), five)
        self.assertIsNone(breaking_operation((1, ()), ((0,),)))

    def test_wrong_tables(self):
        six = tuple(itertools.product(range(2), repeat=3))[:6]
        for rows in ((), six, None, 3, "ab", [(0,)], ((0,), (0,)), ((1,), (0,)), ((0,), (0, 1)), ((),), ((0, 0, 0, 0),), ([0],),
                     ((2,),), ((True,),), ((0,), (True,)), ((10 ** 60,),), ((0,), None)):
            self.malformed(breaking_operation, ORDER, rows)
            self.malformed(breaking_operation, (60, ()), rows if rows not in (((2,),),) else ((60,),))
        for value in NO_STRUCTURES:
            self.malformed(breaking_operation, value, ((0,),))
        self.refuses("large", breaking_operation, (8, ()), ((0,), (1,)))
        self.refuses("large", breaking_operation, (4, ()), ((0,), (1,), (2,)))
        rows = tuple(itertools.product(range(7), repeat=3))
        self.refuses("large", breaking_operation, (7, ((3, rows[:64]),)), ((0,), (1,)))

    def test_defined(self):
        for rng, B in templates(250, sizes=(1, 2, 3)):
            A = brute.structure(rng, kind_of(B), rng.randint(1, 4), 5)
            marks = tuple(rng.randrange(A[0]) for _ in range(rng.randint(1, 3)))
            told = sorted({tuple(h[p] for p in marks) for h in plain_maps(A, B)})
            self.assertEqual(defined_rows(A, marks, B), tuple(told))
        for A, B in ((ring(5), full_graph(3)), (ring(4), beside(EDGE, full_graph(3))), (ring(6), ring(6)),
                     ((3, ((2, ((0, 1),)),)), full_graph(4))):
            for marks in itertools.product(range(A[0]), repeat=2):
                told = sorted({tuple(h[p] for p in marks) for h in plain_maps(A, B)})
                self.assertEqual(defined_rows(A, marks, B), tuple(told))

    def test_defined_edges(self):
        self.assertEqual(defined_rows((60, ()), (3, 3), (60, ())), tuple((x, x) for x in range(60)))
        self.assertEqual(len(defined_rows((60, ()), (0, 1, 2), (20, ()))), 8000)
        self.assertEqual(defined_rows(ring(3), (0,), ring(4)), ())
        # Each fact of the ring of five points can be kept with two joined points alone, and not all of them.
        self.assertEqual(defined_rows(ring(5), (0,), beside(EDGE, full_graph(3))), ((2,), (3,), (4,)))
        # A part that is linked with no mark has no map, and then there is none at all.
        self.assertEqual(defined_rows(beside(EDGE, ring(3)), (0,), ring(4)), ())
        self.assertEqual(defined_rows(beside(EDGE, ring(4)), (0, 1), EDGE), ((0, 1), (1, 0)))
        self.assertEqual(len(defined_rows(full_graph(60), (0, 1), full_graph(60))), 60 * 59)
        for marks in ((), (0, 0, 0, 0), [0], (2,), (-1,), (True,), None, 0, "0", ((0,),), (10 ** 60,)):
            self.malformed(defined_rows, EDGE, marks, EDGE)
        for value in NO_STRUCTURES:
            self.malformed(defined_rows, EDGE, (0,), value)
        for value in [value for value in WRONG if not plain_structure(value)] + [(1, ()), (1, ((1, ()),))]:
            self.malformed(defined_rows, value, (0,), EDGE)
        self.malformed(defined_rows, (0, ((2, ()),)), (0,), EDGE)

    def test_geiger(self):
        # Point 10.4: definable tables are those that no operation breaks.
        for rng, B in templates(60, sizes=(2,)):
            rows = tuple(sorted(rng.sample(list(itertools.product(range(2), repeat=2)), 2)))
            marks = tuple(2 * rows[0][j] + rows[1][j] for j in range(2))
            told = defined_rows(power_structure(B, 2), marks, B)
            self.assertIs(breaking_operation(B, rows) is None, told == rows)

    def test_document(self):
        self.assertEqual((operation_number(ORDER, 2), special_operation(ORDER, "semilattice"),
                          special_operation(ORDER, "majority")), (6, (0, 0, 0, 1), (0, 0, 0, 1, 0, 1, 1, 1)))
        self.assertEqual((special_operation(ORDER, "maltsev") is None, operation_at((0, 0, 0, 1), 2, (1, 1)),
                          is_kept_by(ORDER, (1, 0), 1)), (True, 1, False))
        self.assertEqual((breaking_operation(ORDER, ((0, 1), (1, 0))), breaking_operation(ORDER, ((0, 0), (1, 1)))),
                         ((0, 0, 0, 0), None))


def plain_operations_of(B):
    """The operations of two arguments of a structure of three points with one row."""
    return [f for f in itertools.product(range(3), repeat=9) if plain_keeps(f, 3, 2, B[1][0][1])]


if __name__ == "__main__":
    unittest.main()
