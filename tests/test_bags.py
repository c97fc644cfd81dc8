"""Bag trees, orders and thickets: points 12.1 to 12.7."""

import itertools
import random
import unittest

import brute
from brute import WRONG, full_graph, graph, hom, plain_structure, ring, variants
from cases import Case
from plain import (
    plain_bag_tree, plain_order_tree, plain_thicket, plain_thicket_order, plain_width)
from probeweb.bags import (
    bag_width, is_bag_tree, is_thicket, least_tree, least_width, number_along, order_tree, order_width, thicket_order,
    widest_thicket)
from probeweb.maps import taking_order
from probeweb.structures import beside, folded_by, joined_points

NO_STRUCTURES = [value for value in WRONG if not plain_structure(value)]
SQUARE = ring(4)
SQUARE_TREE = (((3,), (2, 3), (1, 2, 3), (0, 1, 3)), (-1, 0, 1, 2))
EMPTY = (0, ((2, ()),))


def joined_parts(*sizes):
    """The graph in which points are joined exactly if they are in unlike parts."""
    part = [k for k, size in enumerate(sizes) for _ in range(size)]
    return graph(len(part), [(x, y) for x in range(len(part)) for y in range(x) if part[x] != part[y]])


def grid(r, k):
    return graph(r * k, [(k * i + j, k * i + j + 1) for i in range(r) for j in range(k - 1)]
                 + [(k * i + j, k * i + j + k) for i in range(r - 1) for j in range(k)])


def structures(many, most=6):
    for seed in range(many):
        rng = random.Random(seed)
        kind = brute.random_kind(rng, (1, 2, 3), 2)
        yield rng, brute.structure(rng, kind, rng.randint(0, most), rng.choice((3, 8)))


class Trees(Case):
    def test_orders(self):
        for rng, A in structures(200):
            for order in rng.sample(list(itertools.permutations(range(A[0]))), 1 if A[0] < 2 else 2):
                told = plain_order_tree(A, order)
                self.assertEqual(order_tree(A, order), told)
                self.assertTrue(plain_bag_tree(A, told))
                width = max(len(bag) for bag in told[0]) - 1
                self.assertEqual((order_width(A, order), bag_width(A, told)), (width, width))
                self.assertIs(is_bag_tree(A, told), True)
        self.assertEqual((order_tree(EMPTY, ()), order_width(EMPTY, ())), ((((),), (-1,)), -1))
        self.assertEqual(order_tree((2, ()), (1, 0)), (((0,), (1,)), (-1, 0)))
        path = graph(60, [(x, x + 1) for x in range(59)])
        self.assertEqual(order_width(path, tuple(range(60))), 1)
        self.assertEqual(order_width(full_graph(60), tuple(range(59, -1, -1))), 59)

    def test_bent_trees(self):
        for value in itertools.chain(variants(SQUARE_TREE), WRONG):
            self.assertIs(is_bag_tree(SQUARE, value), plain_bag_tree(SQUARE, value), value)
        small = (3, ((3, ((0, 1, 1),)), (2, ((1, 2),))))
        tree = (((0, 1), (1, 2)), (-1, 0))
        for value in itertools.chain(variants(tree), WRONG):
            self.assertIs(is_bag_tree(small, value), plain_bag_tree(small, value), value)

    def test_changed_trees(self):
        found = {True: 0, False: 0}
        for rng, A in structures(200):
            order = list(range(A[0]))
            rng.shuffle(order)
            bags, parents = plain_order_tree(A, tuple(order))
            others = []
            for k in range(len(bags)):
                others.append((bags[:k] + bags[k + 1:], parents[:k] + parents[k + 1:]))
                others.append((bags[:k] + (bags[k][1:],) + bags[k + 1:], parents))
                others.append((bags[:k] + (tuple(range(A[0])),) + bags[k + 1:], parents))
                others.append((bags, parents[:k] + (rng.randint(-1, len(bags)),) + parents[k + 1:]))
                j = rng.randrange(len(bags))
                swapped = list(bags)
                swapped[k], swapped[j] = bags[j], bags[k]
                others.append((tuple(swapped), parents))
            others.append((bags + (bags[0],), parents + (len(bags) - 1,)))
            others.append((bags + ((),), parents + (0,)))
            others.append(((tuple(range(A[0])),), (-1,)))
            for other in others:
                told = plain_bag_tree(A, other)
                found[told] += 1
                self.assertIs(is_bag_tree(A, other), told)
                if told:
                    self.assertEqual(bag_width(A, other), max(map(len, other[0])) - 1)
                else:
                    self.malformed(bag_width, A, other)
        self.assertGreater(min(found.values()), 300)

    def test_edges(self):
        self.assertIs(is_bag_tree(EMPTY, (((),), (-1,))), True)
        self.assertIs(is_bag_tree(EMPTY, (((), (), ()), (-1, 0, 1))), True)
        self.assertIs(is_bag_tree(EMPTY, ((), ())), False)
        self.assertIs(is_bag_tree(EMPTY, (((),), (0,))), False)
        self.assertEqual(bag_width(EMPTY, (((),), (-1,))), -1)
        # A point whose bags do not hang together, a point in no bag, a fact in none.
        path = graph(3, [(0, 1), (1, 2)])
        self.assertIs(is_bag_tree(path, (((0, 1), (0,), (1, 2)), (-1, 0, 1))), False)
        self.assertIs(is_bag_tree(path, (((0, 1), (0,), (1, 2)), (-1, 0, 0))), True)
        self.assertIs(is_bag_tree((3, ((2, ()),)), (((0, 1),), (-1,))), False)
        self.assertIs(is_bag_tree(path, (((0, 1), (2,)), (-1, 0))), False)
        self.assertIs(is_bag_tree((3, ((3, ((0, 1, 2),)),)), (((0, 1), (0, 2), (1, 2)), (-1, 0, 0))), False)
        self.assertIs(is_bag_tree((60, ()), ((tuple(range(60)),), (-1,))), True)

    def test_malformed(self):
        for value in NO_STRUCTURES:
            for ask in (is_bag_tree, is_thicket, bag_width, thicket_order):
                for other in ((), None, ((0,),), (((),), (-1,))):
                    self.malformed(ask, value, other)
            for ask in (order_width, order_tree):
                self.malformed(ask, value, (0,))
            for ask in (least_width, least_tree, widest_thicket):
                self.malformed(ask, value)
        for value in WRONG + (SQUARE_TREE[::-1], (SQUARE_TREE[0], (0, 0, 1, 2))):
            self.malformed(bag_width, SQUARE, value)
            self.malformed(number_along, SQUARE, SQUARE, value)
        for order in (None, True, 3, "abcd", [0, 1, 2, 3], (0, 1, 2), (0, 1, 2, 2), (0, 1, 2, 4), (0, 1, 2, 3, 3),
                      (False, 1, 2, 3), (0, True, 2, 3), (0, 1, 2, -1), ((0,), 1, 2, 3), (0, 1, 2, 10 ** 60)):
            self.malformed(order_width, SQUARE, order)
            self.malformed(order_tree, SQUARE, order)

    def test_document(self):
        self.assertEqual((order_tree(SQUARE, (0, 1, 2, 3)), order_width(SQUARE, (0, 1, 2, 3)), least_width(SQUARE)),
                         (SQUARE_TREE, 2, 2))
        self.assertEqual((thicket_order(SQUARE, ((0,), (1, 2), (3,))), number_along(SQUARE, SQUARE, SQUARE_TREE)), (3, 32))


class Widths(Case):
    def check(self, A, width):
        self.assertEqual(least_width(A), width)
        tree = least_tree(A)
        self.assertTrue(plain_bag_tree(A, tree))
        self.assertEqual(max(map(len, tree[0])) - 1, width)
        thicket = widest_thicket(A)
        self.assertIs(is_thicket(A, thicket), True)
        self.assertEqual(thicket_order(A, thicket), width + 1)
        return thicket

    def test_against_all_orders(self):
        for _, A in structures(200):
            width = plain_width(A)
            thicket = self.check(A, width)
            self.assertTrue(plain_thicket(A, thicket))
            self.assertEqual(plain_thicket_order(A, thicket), width + 1)
            self.assertLessEqual(width, taking_order(A)[1] if A[0] else 0)

    def test_known_widths(self):
        for A, width in (
                (full_graph(12), 11), (joined_parts(6, 6), 6), (joined_parts(5, 7), 5), (joined_parts(4, 4, 4), 8),
                (ring(12), 2), (graph(12, [(x, x + 1) for x in range(11)]), 1), ((12, ((2, ()),)), 0), ((12, ()), 0),
                (beside(full_graph(6), full_graph(6)), 5), (beside(ring(6), ring(6)), 2), (grid(3, 4), 3), (grid(2, 6), 2),
                (joined_parts(1, 11), 1), (joined_parts(3, 9), 3), (EMPTY, -1), ((1, ()), 0),
                ((12, ((3, ((0, 1, 2), (2, 3, 4), (4, 5, 0))),)), 2), (beside(full_graph(5), grid(2, 3)), 4)):
            self.check(A, width)

    def test_random_graphs(self):
        for seed in range(12):
            rng = random.Random(seed)
            A = graph(12, [tuple(rng.sample(range(12), 2)) for _ in range(rng.choice((12, 20, 30, 45)))])
            tree = least_tree(A)
            self.check(A, max(map(len, tree[0])) - 1)

    def test_left_out_and_folded(self):
        # Point 12.7.
        for rng, A in structures(80):
            rows = [row for row in A[1][0][1]] if A[1] else []
            if rows:
                rows.remove(rng.choice(rows))
                fewer = (A[0], ((A[1][0][0], tuple(rows)),) + A[1][1:])
                self.assertLessEqual(least_width(fewer), least_width(A))
            for x, near in enumerate(joined_points(A)):
                for y in near:
                    folded = folded_by(A, tuple(y if z == x else z for z in range(A[0])))
                    self.assertLessEqual(least_width(folded), least_width(A))

    def test_bounds(self):
        for ask in (least_width, least_tree, widest_thicket):
            self.refuses("large", ask, (13, ()))
            self.refuses("large", ask, (60, ((2, ()),)))
        self.refuses("large", thicket_order, (13, ()), ((0,),))
        self.refuses("large", thicket_order, (13, ()), ())
        self.malformed(thicket_order, (13, ()), ((0,), (1,)))
        self.assertIs(is_thicket((60, ((2, ((3, 59),)),)), ((3,), (59,), (3, 59))), True)


class Thickets(Case):
    def test_values(self):
        told = ((0,), (1, 2), (3,))
        for value in itertools.chain(variants(told), WRONG):
            self.assertIs(is_thicket(SQUARE, value), plain_thicket(SQUARE, value), value)
            if plain_thicket(SQUARE, value):
                self.assertEqual(thicket_order(SQUARE, value), plain_thicket_order(SQUARE, value))
            else:
                self.malformed(thicket_order, SQUARE, value)

    def test_random(self):
        found = {True: 0, False: 0}
        for rng, A in structures(300):
            members = []
            for _ in range(rng.randint(0, 3)):
                members.append(tuple(sorted(rng.sample(range(A[0]), rng.randint(min(1, A[0]), min(3, A[0]))))))
            value = tuple(members)
            told = plain_thicket(A, value)
            found[told] += 1
            self.assertIs(is_thicket(A, value), told)
            if told:
                self.assertEqual(thicket_order(A, value), plain_thicket_order(A, value))
        self.assertGreater(min(found.values()), 60)

    def test_edges(self):
        self.assertIs(is_thicket(EMPTY, ()), True)
        self.assertEqual((thicket_order(EMPTY, ()), thicket_order(SQUARE, ())), (0, 0))
        self.assertEqual(widest_thicket(EMPTY), ())
        self.assertIs(is_thicket(SQUARE, ((),)), False)
        # Two members that do not touch, and one in two pieces.
        self.assertIs(is_thicket(SQUARE, ((0,), (2,))), False)
        self.assertIs(is_thicket(SQUARE, ((0, 2),)), False)
        self.assertIs(is_thicket(SQUARE, ((0, 1, 2), (2, 3), (2, 3))), True)
        # Joined by a fact that has other points, too.
        three = (3, ((3, ((0, 1, 2),)),))
        self.assertIs(is_thicket(three, ((0, 2), (1,))), True)
        self.assertEqual(thicket_order(three, ((0,), (1,), (2,))), 3)
        self.assertEqual(thicket_order(full_graph(12), tuple((x,) for x in range(12))), 12)


class Numbers(Case):
    def test_against_all_maps(self):
        for rng, A in structures(250, most=5):
            B = brute.structure(rng, tuple(arity for arity, _ in A[1]), rng.randint(0, 3), 8)
            order = list(range(A[0]))
            rng.shuffle(order)
            told = hom(A, B)
            for tree in (order_tree(A, tuple(order)), least_tree(A), ((tuple(range(A[0])),), (-1,))):
                self.assertEqual(number_along(A, B, tree), told)
                bags, parents = tree
                longer = (bags + (bags[-1], ()), parents + (len(bags) - 1, 0))
                self.assertEqual(number_along(A, B, longer), told)

    def test_edges(self):
        self.assertEqual(number_along(EMPTY, EMPTY, (((),), (-1,))), 1)
        self.assertEqual(number_along(EMPTY, SQUARE, (((), ()), (-1, 0))), 1)
        self.assertEqual(number_along(SQUARE, EMPTY, SQUARE_TREE), 0)
        self.assertEqual(number_along((1, ()), (0, ()), (((0,),), (-1,))), 0)
        self.assertEqual(number_along(SQUARE, ring(3), SQUARE_TREE), 18)
        path = graph(60, [(x, x + 1) for x in range(59)])
        self.assertEqual(number_along(path, full_graph(60), order_tree(path, tuple(range(60)))), 60 * 59 ** 59)

    def test_bounds(self):
        # 58^3 is below 200000, 59^3 above; 21^4 below, 22^4 above.
        triangle = full_graph(3)
        tree = (((0, 1, 2),), (-1,))
        self.assertEqual(number_along(triangle, (58, ((2, ((0, 0),)),)), tree), 1)
        self.refuses("large", number_along, triangle, (59, ((2, ()),)), tree)
        self.assertEqual(number_along(full_graph(4), (21, ((2, ()),)), (((0, 1, 2, 3),), (-1,))), 0)
        self.refuses("large", number_along, full_graph(4), (22, ((2, ()),)), (((0, 1, 2, 3),), (-1,)))
        self.assertEqual(number_along((60, ()), (1, ()), ((tuple(range(60)),), (-1,))), 1)
        self.refuses("large", number_along, (60, ()), (2, ()), ((tuple(range(60)),), (-1,)))
        self.assertEqual(number_along((60, ()), (0, ()), ((tuple(range(60)),), (-1,))), 0)
        self.malformed(number_along, triangle, (59, ((2, ()),)), (((0, 1),), (-1,)))
        self.malformed(number_along, triangle, (59, ((1, ()),)), tree)
        self.malformed_pairs(number_along, NO_STRUCTURES, triangle, tree)


if __name__ == "__main__":
    unittest.main()
