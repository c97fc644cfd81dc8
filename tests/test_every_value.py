"""Values of any form in each place of the arguments: no other errors than the told ones come out (point 0.3)."""

import itertools
import unittest

import brute
from brute import WRONG, deep, directed_path, full_graph, ring
from probeweb import (
    bagjudges, bagpapers, bags, colourings, global_rows, layers, linear, matrices, operations, pairing, probejudges,
    probepapers, sameness, searchjudges, searchpapers, templatejudges, templatepapers, templates)
from probeweb.errors import Fault, Malformed

EDGE, PATH, ORDER = full_graph(2), directed_path(3), (2, ((2, ((0, 0), (0, 1), (1, 1))),))
ONE, HALF = (1, 1), (1, 2)
SQUARE_TREE = (((3,), (2, 3), (1, 2, 3), (0, 1, 3)), (-1, 0, 1, 2))
LISTS = ((0, 1), (0, 1), (0, 1, 2))
D = (2, (0, 1), (((0, 1),), ((-1, 0), (0, -1))))
COLOURS = (((1, 0), (0, 1)), ((1, 0), (0, 1)))
CALLS = (
    (pairing.pair_round, EDGE, EDGE, 1), (pairing.joint_pairs, EDGE, EDGE), (pairing.pair_colouring, EDGE),
    (pairing.same_pairs, EDGE, EDGE), (pairing.pair_numbers, EDGE), (pairing.is_pair_colouring, EDGE, EDGE, COLOURS),
    (pairing.strand_apart, EDGE, EDGE),
    (linear.fraction_product, ((ONE, HALF),), ((ONE,), (HALF,))), (linear.turned_rows, ((ONE, HALF),), 2),
    (linear.reduced_rows, ((ONE, HALF),), 2), (linear.fraction_rank, ((ONE, HALF),), 2),
    (linear.fraction_solve, ((ONE, HALF),), 2, (HALF,)), (linear.fraction_bar, ((ONE, HALF),), 2, (HALF,)),
    (linear.fraction_kernel, ((ONE, HALF),), 2), (linear.fraction_inverse, ((ONE, HALF), (HALF, ONE))),
    (linear.whole_determinant, ((1, 2), (3, 4))),
    (matrices.kind_letters, EDGE), (matrices.letter_rows, EDGE, (0, 1)), (matrices.word_path, EDGE, ((0, 1), (0, 0))),
    (matrices.word_number, EDGE, ((0, 1), (0, 0))), (matrices.word_within, EDGE, EDGE), (matrices.word_apart, EDGE, EDGE),
    (matrices.path_matrix, EDGE, EDGE), (matrices.closed_row, EDGE, 3), (matrices.spectrum_row, EDGE),
    (matrices.cycle_within, EDGE, EDGE), (matrices.cycle_graph, 3), (matrices.grid_graph, 2, 3),
    (matrices.grid_number, EDGE, 2, 3),
    (sameness.is_turning, EDGE, EDGE, (0, 1)), (sameness.turned_into, EDGE, EDGE), (sameness.turning_chain, EDGE),
    (sameness.turning_number, EDGE), (sameness.turning_orbits, EDGE), (sameness.all_turnings, EDGE),
    (sameness.all_foldings, 3), (sameness.folding_apart, EDGE, EDGE), (sameness.class_number_under, EDGE, EDGE),
    (sameness.class_number_over, EDGE, EDGE), (sameness.class_number_both, EDGE, EDGE),
    (sameness.case_parting, EDGE, EDGE),
    (operations.is_operation, (0, 0, 0, 1), 2, 2), (operations.operation_at, (0, 0, 0, 1), 2, (1, 0)),
    (operations.projected_at, 2, 2, 1), (operations.keeps_rows, (0, 1), 2, 1, ((0, 1), (1, 1))),
    (operations.is_kept_by, ORDER, (0, 1), 1), (operations.put_together, (0, 0, 0, 1), 2, 2, ((0, 1), (1, 0))),
    (operations.all_operations, ORDER, 1), (operations.operation_number, ORDER, 1),
    (operations.special_operation, ORDER, "majority"), (operations.breaking_operation, ORDER, ((0, 1), (1, 0))),
    (operations.defined_rows, PATH, (0, 2), ORDER),
    (templates.list_structure, ORDER), (templates.list_map, ORDER), (templates.is_list_decided, ORDER),
    (templates.is_linear, EDGE), (templates.linear_number, PATH, EDGE), (templates.linear_map, PATH, EDGE),
    (templates.boolean_classes, ORDER), (templates.class_map, PATH, ORDER, "least"),
    (bags.is_bag_tree, ring(4), SQUARE_TREE), (bags.is_thicket, ring(4), ((0,), (1, 2), (3,))),
    (bags.bag_width, ring(4), SQUARE_TREE), (bags.order_width, PATH, (0, 1, 2)), (bags.order_tree, PATH, (0, 1, 2)),
    (bags.thicket_order, ring(4), ((0,), (1, 2), (3,))), (bags.least_width, PATH), (bags.least_tree, PATH),
    (bags.widest_thicket, PATH), (bags.number_along, ring(4), EDGE, SQUARE_TREE),
    (layers.is_layers, D), (layers.layers_of_maps, PATH, EDGE, (0, 1, 2)),
    (layers.layers_of_rows, 2, 2, [(0, 1), (1, 0)], (0, 1)), (layers.layers_number, D), (layers.layers_rows, D),
    (layers.layers_have, D, (0, 1)), (layers.least_row, D), (layers.layers_values, D), (layers.layers_meet, D, D),
    (layers.layers_join, D, D), (layers.layers_less, D, D), (layers.layers_reordered, D, (1, 0)), (layers.layers_sizes, D),
    (global_rows.hall_choice, LISTS, 3), (global_rows.hall_set, LISTS, 3), (global_rows.least_hall_set, LISTS, 3),
    (global_rows.kept_lists, LISTS, 3), (global_rows.tight_set, LISTS, 3, 2, 0),
    (global_rows.bounded_choice, LISTS, 3, ((0, 1), (0, 2), (1, 1))),
    (global_rows.bound_barrier, LISTS, 3, ((0, 1), (0, 2), (1, 1))), (global_rows.apart_number, LISTS, 3),
    (global_rows.rook_row, LISTS, 3), (global_rows.other_lists, LISTS, 3), (global_rows.row_structures, LISTS, 3),
    (global_rows.hall_cutting, LISTS, 3), (global_rows.is_strip, ((0, 1), (1, 0)), 2),
    (global_rows.strip_lists, ((0, 1), (1, 0)), 2), (global_rows.strip_number, 2, 3),
    (colourings.colour_row, ring(3)), (colourings.colour_number, ring(3), 3), (colourings.acyclic_number, ring(3)),
    (colourings.rooted_number, ring(3)), (colourings.stable_row, ring(3)), (colourings.unbroken_row, ring(3)),
    (colourings.flat_list, ring(3)), (colourings.flow_row, ring(3)), (colourings.flow_number, ring(3), 3),
    (colourings.tutte_rows, ring(3)), (colourings.forest_number, ring(3)),
    (probepapers.lists_paper, EDGE, EDGE), (probepapers.strategy_paper, EDGE, EDGE), (probepapers.colours_paper, EDGE, EDGE),
    (probepapers.pairs_paper, EDGE, EDGE), (probepapers.even_paper, EDGE, EDGE),
    (searchpapers.search_paper, EDGE, EDGE), (searchpapers.cutting_paper, EDGE, EDGE),
    (searchpapers.words_paper, EDGE, EDGE), (searchpapers.paths_paper, EDGE, EDGE),
    (searchpapers.cycles_paper, EDGE, EDGE), (searchpapers.sameness_paper, EDGE, EDGE),
    (searchpapers.numbers_paper, EDGE, EDGE), (searchpapers.choice_paper, LISTS, 3),
    (searchpapers.kept_paper, LISTS, 3, 2, 0), (searchpapers.bounds_paper, LISTS, 3, ((0, 1), (0, 2), (1, 1))),
    (bagpapers.core_paper, PATH), (bagpapers.width_paper, PATH), (bagpapers.within_paper, PATH, 0),
    (bagpapers.number_paper, ring(4), EDGE, SQUARE_TREE), (bagpapers.layers_paper, PATH, EDGE, (0, 1, 2)),
    (templatepapers.defined_paper, ORDER, ((0, 1), (1, 0))), (templatepapers.decided_paper, ORDER),
    (templatepapers.special_paper, ORDER, "maltsev"), (templatepapers.class_paper, PATH, ORDER, "least"))
# Judges of papers, with what stands before the paper, and papers that they take.
JUDGES = (
    (probejudges.takes_lists, (EDGE, EDGE), probepapers.lists_paper(EDGE, EDGE)),
    (probejudges.takes_lists, (PATH, directed_path(2)), probepapers.lists_paper(PATH, directed_path(2))),
    (probejudges.takes_strategy, (EDGE, EDGE), probepapers.strategy_paper(EDGE, EDGE)),
    (probejudges.takes_strategy, (PATH, directed_path(2)), probepapers.strategy_paper(PATH, directed_path(2))),
    (probejudges.takes_colours, (EDGE, EDGE), ("classes", (0, 0), (0, 0))),
    (probejudges.takes_colours, (EDGE, EDGE), ("even", ((HALF, HALF), (HALF, HALF)))),
    (probejudges.takes_colours, (PATH, EDGE), ("trees", ((), ((0, 0, (0,), 1),), ((0, 0, (1,), 1),)), 1000003)),
    (probejudges.takes_pairs, (EDGE, EDGE), ("pairs", COLOURS)),
    (probejudges.takes_pairs, (PATH, EDGE), ("strands", (("fact", 0, (0, 1)), ("through", 0, 0)), 5)),
    (searchjudges.takes_search, (EDGE, EDGE), ("map", (0, 1))),
    (searchjudges.takes_search, (PATH, directed_path(2)), searchpapers.search_paper(PATH, directed_path(2))),
    (searchjudges.takes_search, (PATH, directed_path(2)), searchpapers.cutting_paper(PATH, directed_path(2))),
    (searchjudges.takes_words, (EDGE, EDGE), searchpapers.words_paper(EDGE, EDGE)),
    (searchjudges.takes_words, (PATH, directed_path(2)), ("word", ((0, 0), (0, 0)))),
    (searchjudges.takes_paths, (EDGE, EDGE), searchpapers.paths_paper(EDGE, EDGE)),
    (searchjudges.takes_paths, (PATH, EDGE), ("word", ((0, 0), (0, 0)))),
    (searchjudges.takes_cycles, (EDGE, EDGE), ("alike", (1, 0, -1))),
    (searchjudges.takes_cycles, (PATH, EDGE), ("cycle", 2)),
    (searchjudges.takes_sameness, (EDGE, EDGE), ("turned", (1, 0))),
    (searchjudges.takes_sameness, (ring(6), brute.graph(6, [(0, 1), (1, 2), (0, 2), (3, 4), (4, 5), (3, 5)])),
     searchpapers.sameness_paper(ring(6), brute.graph(6, [(0, 1), (1, 2), (0, 2), (3, 4), (4, 5), (3, 5)]))),
    (searchjudges.takes_sameness, (PATH, EDGE), ("numbers", (2, ((2, ((0, 1), (1, 0))),)))),
    (searchjudges.takes_choice, (LISTS, 3), ("choice", (1, 0, 2))),
    (searchjudges.takes_choice, (((0,), (0,)), 3), ("hall", (0, 1))),
    (searchjudges.takes_kept, (LISTS, 3, 2, 0), ("tight", (0, 1))),
    (searchjudges.takes_bounds, (LISTS, 3, ((0, 1), (0, 2), (1, 1))), ("choice", (0, 1, 2))),
    (searchjudges.takes_bounds, (LISTS, 3, ((0, 1), (0, 2), (2, 2))), ("low", (2,))),
    (bagjudges.takes_core, (ring(4),), bagpapers.core_paper(ring(4))),
    (bagjudges.takes_width, (ring(4),), bagpapers.width_paper(ring(4))),
    (bagjudges.takes_within, (ring(4), 1), bagpapers.within_paper(ring(4), 1)),
    (bagjudges.takes_within, (ring(4), 2), bagpapers.within_paper(ring(4), 2)),
    (bagjudges.takes_number, (ring(4), EDGE), bagpapers.number_paper(ring(4), EDGE, SQUARE_TREE)),
    (bagjudges.takes_layers, (EDGE, EDGE, (0, 1)), ("layers", D)))
# Judges of templates; what stands before their papers is never of another kind.
TEMPLATE_JUDGES = tuple(
    (takes, told, paper) for takes, told, paper in (
        (templatejudges.takes_defined, (ORDER, ((0, 1), (1, 0))), ("operation", (0, 0, 0, 0))),
        (templatejudges.takes_defined, (ORDER, ((0, 0), (1, 1))), ("formula",)),
        (templatejudges.takes_decided, (ORDER,), ("back", (0, 0, 0))),
        (templatejudges.takes_decided, (EDGE,), templatepapers.decided_paper(EDGE)),
        (templatejudges.takes_special, (ORDER, "majority"), ("operation", (0, 0, 0, 1, 0, 1, 1, 1))),
        (templatejudges.takes_special, (ORDER, "maltsev"), templatepapers.special_paper(ORDER, "maltsev")),
        (templatejudges.takes_class, (PATH, ORDER, "least"), ("map", (0, 0, 1))),
        (templatejudges.takes_class, (ring(3), EDGE, "most"), templatepapers.class_paper(ring(3), EDGE, "most")),
        (templatejudges.takes_class, (ring(3), EDGE, "odd"), templatepapers.class_paper(ring(3), EDGE, "odd")),
        (templatejudges.takes_class, ((1, ((1, ((0,),)),)), (2, ((1, ()),)), "least"), ("raised", ((0, (0,)),))),
        (templatejudges.takes_class, ((1, ((1, ((0,),)),)), (2, ((1, ()),)), "zero"), ("empty", 0))))
ITEMS = (None, True, False, "a", "", -1, 0, 1, 2, 7, (), [], {}, (0,), ("a",), 10 ** 60, -10 ** 60, deep(60), ((0, 0),))


def changed(value):
    """Values with another one at one place, however deep it stands, and lists in the place of tuples."""
    yield from ITEMS
    if isinstance(value, (tuple, list)):
        yield list(value)
        yield tuple(value) + tuple(value[-1:])
        yield tuple(value[:-1])
        yield tuple(value[::-1])
        for k, item in enumerate(value):
            for other in changed(item):
                yield type(value)(list(value[:k]) + [other] + list(value[k + 1:]))


def nested(value):
    """The value in deep tuples and lists."""
    for made in (value, [value]):
        for _ in range(55):
            made = (made,)
        yield made


class Values(unittest.TestCase):
    def ask(self, function, arguments):
        try:
            return function(*arguments)
        except Fault:
            return None

    def test_one_argument(self):
        for function, *told in CALLS:
            right = repr(self.ask(function, told))
            for k, value in enumerate(told):
                for other in itertools.chain(WRONG, changed(value)):
                    self.ask(function, told[:k] + [other] + told[k + 1:])
            # Nothing of this changes what is told later, and the arguments stay as they are.
            self.assertEqual(repr(self.ask(function, told)), right)

    def test_all_arguments(self):
        for function, *told in CALLS:
            for other in WRONG + ITEMS:
                self.ask(function, [other] * len(told))

    def test_answers_for_every_value(self):
        # Functions that answer for every value of their last argument raise nothing for it.
        asks = ((pairing.is_pair_colouring, EDGE, EDGE), (sameness.is_turning, EDGE, EDGE), (bags.is_bag_tree, ring(4)),
                (bags.is_thicket, ring(4)), (layers.is_layers,), (layers.layers_have, D))
        for function, *told in asks:
            for other in itertools.chain(WRONG, ITEMS, changed(COLOURS), changed(D), changed(SQUARE_TREE)):
                self.assertIn(function(*told, other), (True, False))
        for other in itertools.chain(WRONG, ITEMS, changed((0, 1))):
            self.assertIn(operations.is_operation(other, 2, 1), (True, False))
            self.assertIn(global_rows.is_strip(other, 2), (True, False))
            self.assertIn(global_rows.is_strip((), other), (True, False))
        self.assertTrue(brute.plain_structure(EDGE))

    def test_judges(self):
        for takes, told, paper in JUDGES + TEMPLATE_JUDGES:
            self.assertIs(takes(*told, paper), True, takes)
            word = paper[0]
            others = itertools.chain(WRONG, ITEMS, changed(paper), nested(paper), nested((word, 0)),
                                     [(word, value) for value in WRONG + ITEMS], [(word, value, value) for value in WRONG],
                                     [(word, value, value, value) for value in WRONG], [(word, value) for value in nested(0)])
            for other in others:
                self.assertIn(takes(*told, other), (True, False))
            # What stands before the paper is looked at first, whatever the paper is.
            for other in (None, paper) if (takes, told, paper) in JUDGES else ():
                for k in range(len(told)):
                    for value in (None, True, "a", (), [], 10 ** 60, deep(60)):
                        # A row of no lists is one, and each integer is a bound of a width.
                        if value == () and takes in (searchjudges.takes_choice, searchjudges.takes_bounds) and k == 0:
                            continue
                        if value == 10 ** 60 and takes == bagjudges.takes_within and k == 1:
                            continue
                        with self.assertRaises(Malformed):
                            takes(*told[:k], value, *told[k + 1:], other)


if __name__ == "__main__":
    unittest.main()
