"""Trees: points 3.3 and 3.4."""

import random
import unittest

import brute
from brute import WRONG, from_facts, hom, plain_structure, plain_tree, random_tree, rooted_numbers, unfold, variants
from cases import Case
from probeweb.trees import (
    is_tree, tree_number, tree_points, tree_reaches, tree_rest, tree_rests, tree_unfolded)

KIND = (1, 2, 3)
TREE = ((), ((0, 0, (), 2), (1, 1, (0,), 3)), ((2, 1, (1, 0), 1), (1, 0, (1,), 2)))
A3 = (3, ((1, ((0,), (2,))), (2, ((0, 1), (1, 2), (2, 0), (2, 1))), (3, ((0, 1, 2), (1, 1, 0), (2, 0, 1)))))
ROOT = ((),)
NO_KINDS = [value for value in WRONG if value not in ((), ())] + [(0,), (4,), (2,) * 7, [2], (True,), ("2",), ((2,),)]
NO_STRUCTURES = [value for value in WRONG if not plain_structure(value)]


def is_kind(value):
    return isinstance(value, tuple) and len(value) <= 6 and all(type(k) is int and k in (1, 2, 3) for k in value)


class Forms(Case):
    def test_trees(self):
        for tree in (ROOT, ((), ()), TREE, ((), ((1, 0, (0,), 10 ** 60),)), (((0, 0, (), 1),),)):
            self.assertIs(is_tree(tree, KIND), True)
        self.assertIs(is_tree(ROOT, ()), True)

    def test_no_trees(self):
        for tree in ((), [()], ((), [(1, 0, (0,), 1)]), ((), ([1, 0, (0,), 1],)), ((), ((1, 0, [0], 1),)),
                     (((1, 0, (0,), 1),),), ((), ((1, 0, (1,), 1),)), ((), ((1, 0, (-1,), 1),)),
                     ((), ((1, 0, (0,), 0),)), ((), ((1, 0, (0,), -1),)), ((), ((1, 0, (0,), True),)),
                     ((), ((1, 2, (0,), 1),)), ((), ((1, -1, (0,), 1),)), ((), ((3, 0, (0,), 1),)),
                     ((), ((-1, 0, (0,), 1),)), ((), ((1, 0, (0, 0), 1),)), ((), ((1, 0, (), 1),)),
                     ((), ((0, 0, (0,), 1),)), ((), ((0, 1, (), 1),)), ((), ((2, 0, (0,), 1),)),
                     ((), ((True, 0, (0,), 1),)), ((), ((1, False, (0,), 1),)), ((), ((1, 0, (False,), 1),)),
                     ((), ((1, 0, (0,)),)), ((), ((1, 0, (0,), 1, 1),))):
            self.assertIs(is_tree(tree, KIND), False, tree)
        for value in WRONG:
            self.assertIs(is_tree(value, KIND), plain_tree(value, KIND))

    def test_variants(self):
        for other in variants(TREE):
            self.assertIs(is_tree(other, KIND), plain_tree(other, KIND), other)

    def test_no_kinds(self):
        for kind in NO_KINDS:
            if not is_kind(kind):
                self.malformed(is_tree, ROOT, kind)
                self.malformed(tree_points, ROOT, kind)
                self.malformed(tree_unfolded, ROOT, kind)

    def test_malformed(self):
        for tree in list(variants(TREE)) + list(WRONG):
            if not plain_tree(tree, KIND):
                self.malformed(tree_points, tree, KIND)
                self.malformed(tree_unfolded, tree, KIND)
                self.malformed(tree_rests, tree, A3, 5)
                self.malformed(tree_rest, tree, A3, 5)
                self.malformed(tree_number, tree, A3)
                self.malformed(tree_reaches, tree, A3)
        for A in NO_STRUCTURES:
            self.malformed(tree_rests, ROOT, A, 5)
            self.malformed(tree_rest, ROOT, A, 5)
            self.malformed(tree_number, ROOT, A)
            self.malformed(tree_reaches, ROOT, A)
        for modulus in (0, -1, True, None, "1", (1,), -10 ** 60):
            self.malformed(tree_rests, TREE, A3, modulus)
            self.malformed(tree_rest, TREE, A3, modulus)


class Numbers(Case):
    def trees(self):
        for seed in range(150):
            rng = random.Random(seed)
            kind = brute.random_kind(rng, (1, 2, 3), 3)
            tree = random_tree(rng, kind, rng.randint(1, 4))
            A = brute.structure(rng, kind, rng.randint(0, 3), 5)
            if unfold(tree, kind)[0] <= 6:
                yield tree, kind, A

    def test_against_unfolding(self):
        seen = 0
        for tree, kind, A in self.trees():
            seen += 1
            n, facts = unfold(tree, kind)
            probe = from_facts(n, facts, kind)
            self.assertEqual(tree_points(tree, kind), n)
            self.assertEqual(tree_unfolded(tree, kind), probe)
            self.assertEqual(tree_number(tree, A), hom(probe, A))
            for modulus in (1, 2, 7, 10 ** 30):
                self.assertEqual(tree_rest(tree, A, modulus), hom(probe, A) % modulus)
        self.assertGreater(seen, 100)

    def test_rows_against_unfolding(self):
        for tree, kind, A in self.trees():
            rests = tree_rests(tree, A, 5)
            reaches = tree_reaches(tree, A)
            self.assertEqual((len(rests), len(reaches)), (len(tree), len(tree)))
            for i in range(len(tree)):
                n, facts = unfold(tree, kind, i)
                if n <= 6:
                    told = rooted_numbers(from_facts(n, facts, kind), A)
                    self.assertEqual(rests[i], tuple(number % 5 for number in told))
                    self.assertEqual(reaches[i], tuple(x for x in range(A[0]) if told[x] > 0))

    def test_empty_rows(self):
        self.assertEqual(tree_points(ROOT, ()), 1)
        self.assertEqual(tree_unfolded(ROOT, (2, 1)), (1, ((2, ()), (1, ()))))
        self.assertEqual(tree_number(ROOT, (0, ())), 0)
        self.assertEqual(tree_number(ROOT, (60, ())), 60)
        self.assertEqual(tree_reaches(ROOT, (0, ())), ((),))
        self.assertEqual(tree_rests(ROOT, (3, ()), 1), ((0, 0, 0),))
        self.assertEqual(tree_rests(ROOT, (3, ()), 2), ((1, 1, 1),))
        self.assertEqual(tree_rest(ROOT, (3, ()), 3), 0)

    def test_one_fact_of_the_root_alone(self):
        tree = (((0, 0, (), 10 ** 60),),)
        A = (3, ((1, ((0,), (2,))),))
        self.assertEqual(tree_points(tree, (1,)), 1)
        self.assertEqual(tree_number(tree, A), 2)
        self.assertEqual(tree_rest(tree, A, 10 ** 60), 2)
        self.assertEqual(tree_unfolded(tree, (1,)), (1, ((1, ((0,),)),)))

    def test_great_times(self):
        tree = ((), ((0, 0, (0,), 10 ** 60),))
        A = (3, ((2, ((0, 1), (0, 2), (1, 2))),))
        self.assertEqual(tree_points(tree, (2,)), 10 ** 60 + 1)
        self.assertEqual(tree_rests(tree, A, 1000003)[1], (pow(2, 10 ** 60, 1000003), 1, 0))
        self.assertEqual(tree_rest(tree, A, 97), (pow(2, 10 ** 60, 97) + 1) % 97)
        self.assertEqual(tree_reaches(tree, A), ((0, 1, 2), (0, 1)))
        self.refuses("large", tree_number, tree, A)
        self.refuses("large", tree_unfolded, tree, (2,))

    def test_long_tree(self):
        # Each row doubles the tree of the row before.
        tree = ((),) + tuple(((0, 0, (i,), 2),) for i in range(300))
        self.assertEqual(tree_points(tree, (2,)), 2 ** 301 - 1)
        A = (2, ((2, ((0, 1), (1, 0))),))
        self.assertEqual(tree_rest(tree, A, 1000003), 2)
        self.assertEqual(tree_reaches(tree, A)[-1], (0, 1))
        A = (2, ((2, ((0, 0), (0, 1), (1, 0))),))
        numbers = (1, 1)
        for _ in range(300):
            numbers = ((numbers[0] + numbers[1]) ** 2 % 1000003, numbers[0] ** 2 % 1000003)
        self.assertEqual(tree_rests(tree, A, 1000003)[-1], numbers)

    def test_rows_that_do_not_count(self):
        # The great tree of the earlier rows is no part of the last one.
        tree = ((),) + tuple(((0, 0, (i,), 10 ** 9),) for i in range(200)) + (((0, 1, (0,), 1),),)
        A = (2, ((2, ((0, 0), (0, 1), (1, 0), (1, 1))),))
        self.assertEqual(tree_points(tree, (2,)), 2)
        self.assertEqual(tree_number(tree, A), 4)
        self.assertEqual(tree_unfolded(tree, (2,)), (2, ((2, ((1, 0),)),)))

    def test_bounds(self):
        A = (2, ((2, ((0, 1), (1, 0), (1, 1))),))
        self.assertEqual(tree_number(((), ((0, 0, (0,), 399),)), A), 1 + 2 ** 399)
        self.refuses("large", tree_number, ((), ((0, 0, (0,), 400),)), A)
        star = tree_unfolded(((), ((0, 0, (0,), 59),)), (2,))
        self.assertEqual(star, (60, ((2, tuple((0, x) for x in range(1, 60))),)))
        self.refuses("large", tree_unfolded, ((), ((0, 0, (0,), 60),)), (2,))
        path = ((),) + tuple(((0, 0, (i,), 1),) for i in range(59))
        self.assertEqual(tree_unfolded(path, (2,)), brute.directed_path(60))
        self.malformed(tree_number, ((), ((0, 0, (0,), 400),)), (2, ((1, ()),)))

    def test_numbering(self):
        tree = ((), ((0, 0, (0,), 1),), ((1, 1, (1, 0), 2), (0, 1, (0,), 1)))
        self.assertEqual(tree_unfolded(tree, (2, 3)), (8, (
            (2, ((1, 2), (4, 5), (7, 0))), (3, ((1, 0, 3), (4, 0, 6))))))

    def test_document(self):
        tree = ((), ((0, 1, (0,), 1), (0, 0, (0,), 1)))
        path = (3, ((2, ((0, 1), (1, 2))),))
        short = (2, ((2, ((0, 1),)),))
        self.assertEqual((tree_points(tree, (2,)), tree_number(tree, path), tree_reaches(tree, path)),
                         (3, 1, ((0, 1, 2), (1,))))
        self.assertEqual((tree_number(tree, short), tree_unfolded(tree, (2,))), (0, (3, ((2, ((0, 2), (1, 0))),))))
        self.assertEqual(tree_number(((), ((0, 0, (0,), 3),)), (3, ((2, ((0, 1), (0, 2), (1, 2))),))), 9)
        self.assertEqual(tree_reaches(tree, short)[1], ())


if __name__ == "__main__":
    unittest.main()
