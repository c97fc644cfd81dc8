"""Templates: points 11.1 to 11.5."""

import itertools
import random
import unittest

import brute
from brute import WRONG, deep, directed_path, full_graph, hom, plain_is_map, plain_maps, plain_structure, ring
from cases import Case
from plain import plain_keeps, plain_list_structure
from probeweb.arcs import greatest_lists, lists_stand
from probeweb.maps import is_map
from probeweb.operations import special_operation
from probeweb.structures import is_structure
from probeweb.templates import (
    boolean_classes, class_map, is_linear, is_list_decided, linear_map, linear_number, list_map, list_structure)

NO_STRUCTURES = [value for value in WRONG if not plain_structure(value)]
NO_TEMPLATES = NO_STRUCTURES + [(0, ()), (0, ((2, ()),))]
ORDER = (2, ((2, ((0, 0), (0, 1), (1, 1))),))
UNLIKE = full_graph(2)
CLASSES = ("zero", "one", "least", "greatest", "most", "odd")
OPERATIONS = {
    "zero": (1, lambda x: 0), "one": (1, lambda x: 1), "least": (2, min), "greatest": (2, max),
    "most": (3, lambda x, y, z: int(x + y + z > 1)), "odd": (3, lambda x, y, z: (x + y + z) % 2)}


def holds(B, word):
    """True if the operation of the class keeps all tables."""
    k, f = OPERATIONS[word]
    table = tuple(f(*row) for row in itertools.product((0, 1), repeat=k))
    return all(not rows or plain_keeps(table, 2, k, rows) for _, rows in B[1])


def flat_table(rng, p, arity):
    """A random table that is the set of the solutions of linear equations modulo `p`."""
    base = [rng.randrange(p) for _ in range(arity)]
    steps = [[rng.randrange(p) for _ in range(arity)] for _ in range(rng.randint(0, arity))]
    rows = set()
    for factors in itertools.product(range(p), repeat=len(steps)):
        rows.add(tuple((base[i] + sum(c * step[i] for c, step in zip(factors, steps))) % p for i in range(arity)))
    return tuple(sorted(rows))


class Lists(Case):
    def test_structures(self):
        for seed in range(150):
            rng = random.Random(seed)
            B = brute.structure(rng, brute.random_kind(rng, (1, 2, 3), 2), rng.choice((1, 2, 3)), 6)
            told = list_structure(B)
            self.assertEqual(told, plain_list_structure(B))
            self.assertTrue(plain_structure(told))
        for seed in range(6):
            rng = random.Random(seed)
            B = brute.structure(rng, (2, 1), 5, 9)
            self.assertEqual(list_structure(B), plain_list_structure(B))

    def test_maps(self):
        found = {True: 0, False: 0}
        for seed in range(300):
            rng = random.Random(seed)
            B = brute.structure(rng, brute.random_kind(rng, (1, 2, 3), 2), rng.choice((1, 2, 2, 3)), 4)
            U = plain_list_structure(B)
            told = list_map(B)
            maps = plain_maps(U, B)
            found[bool(maps)] += 1
            self.assertEqual(told, maps[0] if maps else None)
            self.assertIs(is_list_decided(B), bool(maps))
        self.assertGreater(min(found.values()), 10)

    def test_what_is_decided(self):
        # Point 11.2: the lists are a map into U(B), and a decided template takes what has standing lists.
        for seed in range(150):
            rng = random.Random(seed)
            kind = brute.random_kind(rng, (1, 2), 2)
            B = brute.structure(rng, kind, rng.choice((2, 3)), 4)
            A = brute.structure(rng, kind, rng.randint(0, 4), 5)
            U = list_structure(B)
            self.assertIs(lists_stand(A, B), hom_is_positive(A, U))
            if lists_stand(A, B):
                lists = greatest_lists(A, B)
                self.assertTrue(is_map(tuple(sum(2 ** v for v in row) - 1 for row in lists), A, U))
                self.assertTrue(not is_list_decided(B) or plain_maps(A, B))
            if special_operation(B, "semilattice") is not None:
                self.assertIs(is_list_decided(B), True)
        self.assertIs(is_list_decided(UNLIKE), False)
        self.assertIs(is_list_decided(full_graph(3)), False)
        self.assertIs(is_list_decided(directed_path(4)), True)

    def test_edges(self):
        self.assertEqual(list_structure((1, ())), (1, ()))
        self.assertEqual(list_structure((1, ((3, ()), (1, ((0,),))))), (1, ((3, ()), (1, ((0,),)))))
        self.assertEqual(list_map((1, ((2, ()),))), (0,))
        self.assertEqual(list_structure((5, ((1, ()),)))[0], 31)
        full = tuple(itertools.product(range(5), repeat=2))
        self.assertEqual(len(list_structure((5, ((2, full),)))[1][0][1]), 961)
        self.assertEqual(list_map((5, ((2, full),) * 6)), (0,) * 31)

    def test_bounds(self):
        three = tuple(itertools.product(range(4), repeat=3))
        self.assertEqual(len(list_structure((4, ((3, three),)))[1][0][1]), 3375)
        five = (5, ((3, tuple(itertools.product(range(5), repeat=3))),))
        for ask in (list_structure, list_map, is_list_decided):
            self.refuses("large", ask, (6, ()))
            self.refuses("large", ask, (60, ((3, ()),)))
            self.refuses("large", ask, five)
            for value in NO_TEMPLATES:
                self.malformed(ask, value)


def hom_is_positive(A, U):
    """True if there is a map, by going on point by point."""
    def more(values):
        if len(values) == A[0]:
            return True
        for v in range(U[0]):
            longer = values + (v,)
            if plain_is_map(longer, part_of(A, len(longer)), U) and more(longer):
                return True
        return False
    return more(())


def part_of(A, n):
    return (n, tuple((arity, tuple(row for row in rows if all(x < n for x in row))) for arity, rows in A[1]))


class Linear(Case):
    def test_is_linear(self):
        found = {True: 0, False: 0}
        for seed in range(400):
            rng = random.Random(seed)
            p = rng.choice((2, 2, 3, 3, 5, 7))
            kind = tuple(rng.choice((1, 2, 3) if p < 5 else (1, 2)) for _ in range(rng.randint(0, 2)))
            B = brute.structure(rng, kind, p, 4)
            if seed % 2 == 0:
                B = (p, tuple((arity, flat_table(rng, p, arity)) for arity in kind))
            if any(len(rows) > 16 for _, rows in B[1]):
                continue
            told = all(
                tuple((x - y + z) % p for x, y, z in zip(*three)) in rows
                for _, rows in B[1] for three in itertools.product(rows, repeat=3))
            found[told] += 1
            self.assertIs(is_linear(B), told)
        self.assertGreater(min(found.values()), 60)
        self.assertIs(is_linear((7, ((3, tuple(itertools.product(range(7), repeat=3))),))), True)
        self.assertIs(is_linear((7, ((3, tuple(itertools.product(range(7), repeat=3))[1:]),))), False)
        self.assertIs(is_linear((5, ((2, ()), (1, ((3,),))))), True)
        for n in (1, 4, 6, 8, 9, 11, 60):
            self.malformed(is_linear, (n, ()))
        for value in NO_TEMPLATES:
            self.malformed(is_linear, value)

    def test_numbers(self):
        found = {True: 0, False: 0}
        for seed in range(400):
            rng = random.Random(seed)
            p = rng.choice((2, 2, 3, 5, 7))
            kind = tuple(rng.choice((1, 2, 3)) for _ in range(rng.randint(1, 2)))
            B = (p, tuple((arity, flat_table(rng, p, arity)) for arity in kind))
            if seed % 20 == 0:
                B = (p, ((kind[0], ()),) + B[1][1:])
            # Random facts have points at two places now and then.
            A = brute.structure(rng, kind, rng.randint(0, 4 if p < 5 else 3), 4)
            maps = plain_maps(A, B)
            found[bool(maps)] += 1
            self.assertEqual(linear_number(A, B), len(maps))
            told = linear_map(A, B)
            self.assertIs(told is None, not maps)
            self.assertTrue(told is None or told in maps)
        self.assertGreater(min(found.values()), 60)

    def test_edges(self):
        B = (3, ((2, ((0, 1), (1, 2), (2, 0))),))
        # A point at both places of a fact: x + 1 = x.
        self.assertEqual((linear_number((1, ((2, ((0, 0),)),)), B), linear_map((1, ((2, ((0, 0),)),)), B)), (0, None))
        self.assertEqual((linear_number((0, ((2, ()),)), B), linear_map((0, ((2, ()),)), B)), (1, ()))
        self.assertEqual(linear_number((40, ((2, ()),)), B), 3 ** 40)
        self.assertEqual(linear_number(directed_path(40), B), 3)
        empty = (2, ((2, ()), (1, ((1,),))))
        self.assertEqual((linear_number((2, ((2, ()), (1, ((0,),)))), empty), linear_number((2, ((2, ((0, 1),)), (1, ()))), empty)),
                         (2, 0))
        self.assertIsNone(linear_map((2, ((2, ((0, 1),)), (1, ()))), empty))

    def test_great_systems(self):
        rng = random.Random(6)
        plane = tuple(row for row in itertools.product(range(7), repeat=3) if (row[0] + 2 * row[1] + 3 * row[2]) % 7 == 1)
        B = (7, ((3, plane),))
        values = [rng.randrange(7) for _ in range(40)]
        rows = set()
        while len(rows) < 60:
            x, y = rng.randrange(40), rng.randrange(40)
            rows |= {(x, y, z) for z in range(40) if (values[x] + 2 * values[y] + 3 * values[z]) % 7 == 1}
        A = (40, ((3, tuple(sorted(rows))),))
        told = linear_map(A, B)
        self.assertTrue(plain_is_map(told, A, B))
        number = linear_number(A, B)
        while number > 1 and number % 7 == 0:
            number //= 7
        self.assertEqual(number, 1)

    def test_errors_in_order(self):
        three = (3, ((2, ((0, 1), (1, 2), (2, 0))),))
        bent = (3, ((2, ((0, 1), (1, 2))),))
        for ask in (linear_number, linear_map):
            self.refuses("large", ask, (41, ((2, ()),)), three)
            self.refuses("large", ask, (41, ((2, ()),)), bent)
            self.refuses("large", ask, (41, ((2, ()),)), (4, ((2, ()),)))
            self.refuses("linear", ask, (40, ((2, ()),)), bent)
            for n in (1, 4, 6, 8, 60):
                self.refuses("linear", ask, (2, ((2, ()),)), (n, ((2, ()),)))
            self.malformed(ask, (41, ((1, ()),)), bent)
            self.malformed(ask, (41, ()), bent)
            for value in NO_STRUCTURES:
                self.malformed(ask, value, three)
            for value in NO_TEMPLATES:
                self.malformed(ask, (41, ((2, ()),)), value)


class Boolean(Case):
    def instances(self, many):
        for seed in range(many):
            rng = random.Random(seed)
            kind = tuple(rng.choice((1, 2, 3)) for _ in range(rng.randint(1, 2)))
            B = brute.structure(rng, kind, 2, rng.choice((2, 4, 8)))
            yield brute.structure(rng, kind, rng.randint(0, 5), rng.choice((2, 5))), B

    def test_classes(self):
        found = {}
        for _, B in self.instances(400):
            told = tuple(word for word in CLASSES if holds(B, word))
            self.assertEqual(boolean_classes(B), told)
            for word in CLASSES:
                found[word, word in told] = found.get((word, word in told), 0) + 1
        self.assertEqual(len(found), 12)
        self.assertGreater(min(found.values()), 20)
        self.assertEqual(boolean_classes((2, ())), CLASSES)
        # A table without rows is kept by each operation.
        self.assertEqual(boolean_classes((2, ((3, ()), (1, ())))), CLASSES)
        one_in_three = (2, ((3, ((0, 0, 1), (0, 1, 0), (1, 0, 0))),))
        self.assertEqual(boolean_classes(one_in_three), ())

    def test_each_table_alone(self):
        # All tables of the arity 2, and some of the arity 3.
        every = list(itertools.product((0, 1), repeat=2))
        for size in range(5):
            for rows in itertools.combinations(every, size):
                B = (2, ((2, rows),))
                self.assertEqual(boolean_classes(B), tuple(word for word in CLASSES if holds(B, word)))
        for k in range(256):
            rows = tuple(row for i, row in enumerate(itertools.product((0, 1), repeat=3)) if k >> i & 1)
            B = (2, ((3, rows),))
            self.assertEqual(boolean_classes(B), tuple(word for word in CLASSES if holds(B, word)))

    def test_maps(self):
        found = {}
        for A, B in self.instances(1500):
            maps = plain_maps(A, B)
            for word in boolean_classes(B):
                told = class_map(A, B, word)
                found[word, told is None] = found.get((word, told is None), 0) + 1
                self.assertIs(told is None, not maps)
                if told is not None:
                    self.assertIn(told, maps)
                if told is not None and word in ("least", "greatest"):
                    best = min if word == "least" else max
                    self.assertEqual(told, tuple(best(f[x] for f in maps) for x in range(A[0])))
        self.assertEqual(len(found), 12)
        self.assertGreater(min(found.values()), 60)

    def test_edges(self):
        empty = (2, ((2, ()), (1, ((1,),))))
        lost, free = (2, ((2, ((0, 1),)), (1, ()))), (2, ((2, ()), (1, ((0,),))))
        for word in boolean_classes(empty):
            self.assertIsNone(class_map(lost, empty, word))
            self.assertEqual(class_map(free, empty, word)[0], 1)
        for word in CLASSES:
            self.assertEqual(class_map((0, ()), (2, ()), word), ())
            self.assertEqual(len(class_map((40, ()), (2, ()), word)), 40)
        self.assertEqual(class_map((3, ()), (2, ()), "least"), (0, 0, 0))
        self.assertEqual(class_map((3, ()), (2, ()), "greatest"), (1, 1, 1))
        self.assertEqual((class_map((2, ()), (2, ()), "zero"), class_map((2, ()), (2, ()), "one")), ((0, 0), (1, 1)))
        # A chain of forced values to its end, both ways.
        chain = (2, ((2, ORDER[1][0][1]), (1, ((1,),)), (1, ((0,),))))
        A = (40, ((2, tuple((x, x + 1) for x in range(39))), (1, ((20,),)), (1, ())))
        self.assertEqual(class_map(A, chain, "least"), (0,) * 20 + (1,) * 20)
        self.assertEqual(class_map(A, chain, "greatest"), (1,) * 40)
        A = A[:1] + ((A[1][0], A[1][1], (1, ((30,),))),)
        for word in ("least", "greatest", "most"):
            self.assertIsNone(class_map(A, chain, word))
        ring39 = ring(39)
        for word in ("most", "odd"):
            self.assertIsNone(class_map(ring39, UNLIKE, word))
            self.assertTrue(plain_is_map(class_map(ring(40), UNLIKE, word), ring(40), UNLIKE))
        # A point at two places of a fact.
        loop = (1, ((2, ((0, 0),)),))
        self.assertIsNone(class_map(loop, UNLIKE, "most"))
        self.assertIn(class_map(loop, ORDER, "most"), ((0,), (1,)))

    def test_errors_in_order(self):
        for n in (1, 3, 60):
            self.malformed(boolean_classes, (n, ()))
            self.refuses("class", class_map, (40, ()), (n, ()), "zero")
            self.refuses("large", class_map, (41, ()), (n, ()), "zero")
        for value in NO_TEMPLATES:
            self.malformed(boolean_classes, value)
            self.malformed(class_map, (41, ()), value, "zero")
        for value in NO_STRUCTURES + [(41, ())]:
            self.malformed(class_map, value, ORDER, "odd")
        for word in ("", "Zero", "zero ", "majority", None, True, 0, ("zero",), ["zero"], deep(60)):
            self.malformed(class_map, (41, ((2, ()),)), ORDER, word)
            self.malformed(class_map, directed_path(2), ORDER, word)
        self.refuses("class", class_map, directed_path(2), ORDER, "odd")
        self.refuses("large", class_map, (41, ((2, ()),)), ORDER, "odd")
        for word in CLASSES:
            if word not in boolean_classes(UNLIKE):
                self.refuses("class", class_map, directed_path(2), UNLIKE, word)

    def test_document(self):
        self.assertEqual(list_structure(UNLIKE), (3, ((2, ((0, 1), (1, 0), (2, 2))),)))
        self.assertEqual((list_map(ORDER), list_map(UNLIKE) is None, boolean_classes(ORDER), boolean_classes(UNLIKE)),
                         ((0, 0, 0), True, ("zero", "one", "least", "greatest", "most"), ("most", "odd")))
        path = directed_path(3)
        self.assertEqual((linear_number(path, UNLIKE), class_map(path, ORDER, "greatest"), is_linear(ORDER)),
                         (2, (1, 1, 1), False))
        self.assertEqual(hom(path, UNLIKE), 2)
        self.assertTrue(is_structure(list_structure(ORDER)))


if __name__ == "__main__":
    unittest.main()
