"""The main facts of point 0.4: one question answered by several chapters."""

import itertools
import random
import unittest

import brute
from brute import full_graph, graph, hom, random_strand, ring
from plain import apart_rows, plain_turned
from probeweb.bags import least_tree, number_along
from probeweb.colourings import colour_number
from probeweb.global_rows import apart_number, row_structures
from probeweb.layers import layers_number, layers_of_maps
from probeweb.maps import least_map, map_number
from probeweb.matrices import closed_row, cycle_graph, cycle_within, path_matrix, spectrum_row, word_apart, word_path
from probeweb.operations import breaking_operation, defined_rows
from probeweb.pairing import same_pairs, strand_apart
from probeweb.refutations import case_refutation
from probeweb.sameness import all_turnings, case_parting, class_number_under, folding_apart, turned_into
from probeweb.strands import strand_number, strand_unfolded
from probeweb.structures import kind_of, power_structure
from probeweb.templates import is_linear, linear_number

HEXAGON = ring(6)
TRIANGLES = graph(6, [(0, 1), (1, 2), (0, 2), (3, 4), (4, 5), (3, 5)])


def pairs(arities, many):
    for seed in range(many):
        rng = random.Random(seed)
        kind = brute.random_kind(rng, arities, 2)
        n = rng.randint(1, 4)
        A = brute.structure(rng, kind, n, 5)
        yield rng, A, brute.structure(rng, kind, rng.choice((n, rng.randint(1, 4))), 6)
        m = list(range(n))
        rng.shuffle(m)
        yield rng, A, plain_turned(A, m)


class Numbers(unittest.TestCase):
    def test_one_number(self):
        for rng, A, B in pairs((1, 2, 3), 150):
            number = hom(A, B)
            order = list(range(A[0]))
            rng.shuffle(order)
            self.assertEqual(map_number(A, B), number)
            self.assertEqual(number_along(A, B, least_tree(A)), number)
            self.assertEqual(layers_number(layers_of_maps(A, B, tuple(order))), number)
            self.assertIs(least_map(A, B) is None, number == 0)
            self.assertIs(case_refutation(A, B) is None, number > 0)
            if B[0] in (2, 3) and is_linear(B):
                self.assertEqual(linear_number(A, B), number)

    def test_colours_and_choices(self):
        for n, edges in ((5, [(0, 1), (1, 2), (2, 3), (3, 4), (4, 0)]), (4, [(0, 1), (0, 2), (0, 3), (1, 2)]), (3, [])):
            G = graph(n, edges)
            for q in range(5):
                self.assertEqual(colour_number(G, q), map_number(G, full_graph(q)))
        lists = ((0, 1, 2), (0, 2), (1, 2, 3), (0, 1, 2))
        A, B = row_structures(lists, 4)
        self.assertEqual((apart_number(lists, 4), map_number(A, B)), (len(apart_rows(lists)),) * 2)
        self.assertEqual(number_along(A, B, least_tree(A)), apart_number(lists, 4))

    def test_up_to_turnings(self):
        # Maps that are one to one come in classes of as many as there are turnings.
        for n, m in ((3, 4), (4, 4), (2, 5)):
            A, B = full_graph(n), full_graph(m)
            self.assertEqual(class_number_under(A, B) * len(all_turnings(A)), map_number(A, B))


class Table(unittest.TestCase):
    def test_paths(self):
        for rng, A, B in pairs((1, 2), 80):
            word = word_apart(A, B)
            self.assertIs(path_matrix(A, B) is None, word is not None)
            if word is not None:
                path = word_path(A, word)
                self.assertNotEqual(map_number(path, A), map_number(path, B))

    def test_cycles(self):
        for rng, A, B in pairs((2,), 80):
            if len(A[1]) != 1:
                continue
            one, two = spectrum_row(A), spectrum_row(B)
            size = max(len(one), len(two))
            alike = one + (0,) * (size - len(one)) == two + (0,) * (size - len(two))
            self.assertIs(alike, closed_row(A, 10) == closed_row(B, 10))
            k = cycle_within(A, B)
            if k is not None:
                self.assertGreater(map_number(cycle_graph(k), A), 0)
                self.assertEqual(map_number(cycle_graph(k), B), 0)

    def test_width_two(self):
        for rng, A, B in itertools.chain(pairs((1, 2), 60), [(random.Random(1), HEXAGON, TRIANGLES)]):
            if same_pairs(A, B):
                for _ in range(5):
                    strand = random_strand(rng, kind_of(A), rng.randint(1, 6))
                    self.assertEqual(strand_number(strand, A), strand_number(strand, B))
            else:
                strand, _ = strand_apart(A, B)
                probe = strand_unfolded(strand, kind_of(A))
                self.assertNotEqual(map_number(probe, A), map_number(probe, B))

    def test_all(self):
        for rng, A, B in pairs((1, 2, 3), 100):
            told = turned_into(A, B)
            self.assertIs(told is None, folding_apart(A, B) is not None)
            self.assertIs(told is None, case_parting(A, B) is not None)


class Questions(unittest.TestCase):
    def test_definable_tables(self):
        for rng, _, B in pairs((1, 2), 60):
            if B[0] > 3:
                continue
            every = list(itertools.product(range(B[0]), repeat=2))
            rows = tuple(sorted(rng.sample(every, min(2, len(every)))))
            marks = tuple(sum(row[j] * B[0] ** (len(rows) - 1 - i) for i, row in enumerate(rows)) for j in range(2))
            told = defined_rows(power_structure(B, len(rows)), marks, B)
            self.assertIs(breaking_operation(B, rows) is None, told == rows)


if __name__ == "__main__":
    unittest.main()
