"""The table of point 0.4 over the whole program: each field by functions, by papers and judges, and on a worksheet."""

import itertools
import random
import unittest

import brute
from brute import full_graph, graph, hom, plain_maps, random_strand, random_tree, ring
from judged import kind, strand_numbers, tree_numbers
from plain import ROOK, SHRIKHANDE, plain_turnings, shuffled
from probeweb.arcs import lists_stand
from probeweb.bagjudges import takes_core, takes_layers, takes_number, takes_width, takes_within
from probeweb.bagpapers import core_paper, layers_paper, number_paper, width_paper, within_paper
from probeweb.bags import least_tree, least_width, number_along
from probeweb.colourings import colour_number
from probeweb.console import Console
from probeweb.global_rows import apart_number, row_structures
from probeweb.layers import layers_number, layers_of_maps
from probeweb.log import first_wrong, read_log
from probeweb.maps import all_maps, core_points, injection_number, least_map, map_number
from probeweb.matrices import (
    closed_row, cycle_graph, cycle_within, path_matrix, spectrum_row, word_apart, word_number, word_path, word_within)
from probeweb.operations import breaking_operation, defined_rows, special_operation
from probeweb.pairing import same_pairs
from probeweb.pebbles import strategy_stands
from probeweb.probejudges import takes_colours, takes_lists, takes_pairs, takes_strategy
from probeweb.probepapers import colours_paper, even_paper, lists_paper, pairs_paper, strategy_paper
from probeweb.refining import even_matrix, same_colours
from probeweb.sameness import all_turnings, class_number_both, class_number_over, class_number_under, turned_into
from probeweb.searchjudges import (
    takes_choice, takes_cycles, takes_paths, takes_sameness, takes_search, takes_words)
from probeweb.searchpapers import (
    choice_paper, cutting_paper, cycles_paper, numbers_paper, paths_paper, sameness_paper, search_paper, words_paper)
from probeweb.strands import strand_unfolded
from probeweb.structures import power_structure
from probeweb.templatejudges import takes_class, takes_decided, takes_defined, takes_special
from probeweb.templatepapers import class_paper, decided_paper, defined_paper, special_paper
from probeweb.templates import boolean_classes, is_linear, is_list_decided, linear_number, list_structure
from probeweb.trees import tree_unfolded

HEXAGON, TRIANGLES = ring(6), graph(6, [(0, 1), (1, 2), (0, 2), (3, 4), (4, 5), (3, 5)])
FOUR, THREE = full_graph(4), full_graph(3)


def pairs(arities, many=70, least=0):
    for seed in range(many):
        rng = random.Random(seed)
        arity = brute.random_kind(rng, arities, 2)
        n = rng.randint(least, 4)
        A = brute.structure(rng, arity, n, 5)
        yield rng, A, brute.structure(rng, arity, rng.choice((n, rng.randint(least, 4))), 6)
        yield rng, A, shuffled(A, rng)
    known = [(HEXAGON, TRIANGLES), (FOUR, THREE), (THREE, FOUR), (ring(5), THREE), (THREE, ring(5)), (ring(4), full_graph(2))]
    for A, B in known if 2 in arities else []:
        yield random.Random(1), A, B


def numbers_in(probe, A, B):
    return map_number(probe, A), map_number(probe, B)


class Existence(unittest.TestCase):
    """The first column: each probe that maps to `A` maps to `B`."""

    def test_trees(self):
        for rng, A, B in pairs((1, 2, 3)):
            right, paper = lists_stand(A, B), lists_paper(A, B)
            self.assertEqual((paper[0], takes_lists(A, B, paper)), ("lists" if right else "tree", True))
            if right:
                for _ in range(4):
                    tree = random_tree(rng, kind(A), rng.randint(1, 4))
                    self.assertTrue(any(tree_numbers(tree, B)) or not any(tree_numbers(tree, A)))
            else:
                self.assertTrue(any(tree_numbers(paper[1], A)) and not any(tree_numbers(paper[1], B)))

    def test_paths(self):
        for _, A, B in pairs((1, 2)):
            word, paper = word_within(A, B), words_paper(A, B)
            self.assertEqual((paper[0], takes_words(A, B, paper)), ("within" if word is None else "word", True))
            if word is not None:
                self.assertEqual(paper[1], word)
                one, two = numbers_in(word_path(A, word), A, B)
                self.assertTrue(one > 0 and two == 0)

    def test_cycles(self):
        for _, A, B in pairs((2,)):
            if kind(A) != (2,):
                continue
            k = cycle_within(A, B)
            for j in range(1, 13):
                one, two = numbers_in(cycle_graph(j), A, B)
                self.assertEqual(one > 0 and two == 0 and (k is None or j < k), False)
            if k is not None:
                one, two = numbers_in(cycle_graph(k), A, B)
                self.assertTrue(one > 0 and two == 0)

    def test_width_two(self):
        for rng, A, B in pairs((1, 2)):
            if B[0] > 5:
                continue
            right, paper = strategy_stands(A, B), strategy_paper(A, B)
            self.assertEqual((paper[0], takes_strategy(A, B, paper)), ("strategy" if right else "strand", True))
            if right:
                for _ in range(4):
                    strand = random_strand(rng, kind(A), rng.randint(1, 5))
                    self.assertTrue(strand_numbers(strand, B) > 0 or strand_numbers(strand, A) == 0)
            else:
                self.assertTrue(strand_numbers(paper[1], A) > 0 and strand_numbers(paper[1], B) == 0)

    def test_all(self):
        for _, A, B in pairs((1, 2, 3)):
            right = least_map(A, B) is not None
            self.assertIs(right, bool(plain_maps(A, B)))
            for paper, word in ((search_paper(A, B), "refuted"), (cutting_paper(A, B), "cut")):
                self.assertEqual((paper[0], takes_search(A, B, paper)), ("map" if right else word, True))

    def test_each_row_tells_the_next(self):
        told = set()
        for _, A, B in pairs((1, 2)):
            if B[0] > 5:
                continue
            row = (least_map(A, B) is not None, strategy_stands(A, B), lists_stand(A, B), word_within(A, B) is None)
            self.assertEqual(row, tuple(sorted(row)))
            told.add(row)
            if kind(A) == (2,):
                self.assertTrue(cycle_within(A, B) is None or not row[1])
        self.assertGreaterEqual(len(told), 3)
        # Four points into three: the strategy stands, and there is no map. A triangle into an edge: the lists stand alone.
        self.assertEqual((strategy_stands(FOUR, THREE), least_map(FOUR, THREE)), (True, None))
        self.assertEqual((strategy_stands(THREE, full_graph(2)), lists_stand(THREE, full_graph(2))), (False, True))


class Counting(unittest.TestCase):
    """The other column: each probe has equally many maps to `A` and to `B`."""

    def test_trees(self):
        for rng, A, B in pairs((1, 2, 3)):
            right, paper = same_colours(A, B), colours_paper(A, B)
            self.assertEqual((paper[0], takes_colours(A, B, paper)), ("classes" if right else "trees", True))
            if max(kind(A), default=1) < 3:
                even = even_paper(A, B)
                self.assertEqual((even[0], takes_colours(A, B, even)), ("even" if right else "trees", True))
                self.assertIs(even_matrix(A, B) is not None, right)
            if right:
                tree = random_tree(rng, kind(A), rng.randint(1, 4))
                self.assertEqual(sum(tree_numbers(tree, A)), sum(tree_numbers(tree, B)))
                if tree_size(tree, kind(A)) <= 12:
                    one, two = numbers_in(tree_unfolded(tree, kind(A)), A, B)
                    self.assertEqual(one, two)

    def test_paths(self):
        for _, A, B in pairs((1, 2)):
            X, word, paper = path_matrix(A, B), word_apart(A, B), paths_paper(A, B)
            self.assertIs(X is None, word is not None)
            self.assertEqual((paper, takes_paths(A, B, paper)), (("matrix", X) if word is None else ("word", word), True))
            if word is not None:
                one, two = numbers_in(word_path(A, word), A, B)
                self.assertEqual((one, two), (word_number(A, word), word_number(B, word)))
                self.assertNotEqual(one, two)

    def test_cycles(self):
        for _, A, B in pairs((2,)):
            if kind(A) != (2,):
                continue
            one, two = spectrum_row(A), spectrum_row(B)
            size = max(len(one), len(two))
            right = one + (0,) * (size - len(one)) == two + (0,) * (size - len(two))
            paper = cycles_paper(A, B)
            self.assertEqual((paper[0], takes_cycles(A, B, paper)), ("alike" if right else "cycle", True))
            self.assertIs(closed_row(A, 12) == closed_row(B, 12), right)
            if not right:
                self.assertEqual(len(set(numbers_in(cycle_graph(paper[1]), A, B))), 2)

    def test_width_two(self):
        for rng, A, B in pairs((1, 2)):
            right, paper = same_pairs(A, B), pairs_paper(A, B)
            self.assertEqual((paper[0], takes_pairs(A, B, paper)), ("pairs" if right else "strands", True))
            if right:
                strand = random_strand(rng, kind(A), rng.randint(1, 5))
                self.assertEqual(strand_numbers(strand, A), strand_numbers(strand, B))
                one, two = numbers_in(strand_unfolded(strand, kind(A)), A, B)
                self.assertEqual(one, two)

    def test_all(self):
        for _, A, B in pairs((1, 2, 3)):
            if max(A[0], B[0]) > 5:
                continue
            right = turned_into(A, B) is not None
            self.assertIs(right, bool(plain_turnings(A, B)))
            one, two = sameness_paper(A, B), numbers_paper(A, B)
            self.assertEqual((one[0], takes_sameness(A, B, one)), ("turned" if right else "apart", True))
            self.assertEqual((two[0], takes_sameness(A, B, two)), ("turned" if right else "numbers", True))
            if not right:
                self.assertNotEqual(hom(two[1], A), hom(two[1], B))

    def test_each_row_tells_the_next(self):
        for _, A, B in pairs((1, 2)):
            row = (turned_into(A, B) is not None, same_pairs(A, B), same_colours(A, B), path_matrix(A, B) is not None)
            self.assertEqual(row, tuple(sorted(row)))
            if kind(A) == (2,):
                self.assertTrue(cycles_paper(A, B)[0] == "alike" or not row[1])
            # Equal numbers for all probes of a row: then a probe maps to both or to none.
            if row[2]:
                self.assertTrue(lists_stand(A, B) and lists_stand(B, A))
            if row[3]:
                self.assertIsNone(word_within(A, B))
        self.assertEqual((same_colours(HEXAGON, TRIANGLES), same_pairs(HEXAGON, TRIANGLES)), (True, False))
        self.assertEqual((same_pairs(ROOK, SHRIKHANDE), turned_into(ROOK, SHRIKHANDE)), (True, None))


def tree_size(tree, arities):
    """The number of points of the last row's tree."""
    sizes = []
    for row in tree:
        sizes.append(1 + sum(times * sum(sizes[j] for j in sons) for _, _, sons, times in row))
    return sizes[-1]


class OneNumber(unittest.TestCase):
    """Number 3: the number of maps by all theories."""

    def test_by_chance(self):
        for rng, A, B in pairs((1, 2, 3), least=1):
            number = hom(A, B)
            order = tuple(rng.sample(range(A[0]), A[0]))
            tree = least_tree(A)
            self.assertEqual([len(all_maps(A, B)), map_number(A, B), number_along(A, B, tree)], [number] * 3)
            if B[0] <= 8:
                self.assertEqual(layers_number(layers_of_maps(A, B, order)), number)
                paper = layers_paper(A, B, order)
                self.assertTrue(takes_layers(A, B, order, paper))
            paper = number_paper(A, B, tree)
            self.assertEqual((paper[1], takes_number(A, B, paper)), (number, True))
            if B[0] in (2, 3, 5) and is_linear(B):
                self.assertEqual(linear_number(A, B), number)
            self.assertEqual(injection_number(A, B), sum(len(set(f)) == len(f) for f in plain_maps(A, B)))

    def test_up_to_turnings(self):
        for _, A, B in pairs((1, 2), many=30, least=1):
            if B[0] > 5 or A[0] > 4:
                continue
            maps = plain_maps(A, B)
            under, over = all_turnings(A), all_turnings(B)
            for told, ways in ((class_number_under(A, B), [(m, None) for m in under]), (class_number_over(A, B), [(None, l) for l in over]),
                               (class_number_both(A, B), list(itertools.product(under, over)))):
                classes = {min(turned(f, m, l) for m, l in ways) for f in maps}
                self.assertEqual(told, len(classes))

    def test_permanents_and_colours(self):
        for seed in range(30):
            rng = random.Random(seed)
            lists = tuple(tuple(v for v in range(4) if rng.random() < 0.6) for _ in range(3))
            A, B = row_structures(lists, 4)
            paper = choice_paper(lists, 4)
            self.assertTrue(takes_choice(lists, 4, paper))
            self.assertEqual((map_number(A, B), paper[0] == "choice"), (apart_number(lists, 4), apart_number(lists, 4) > 0))
            G = graph(5, [edge for edge in itertools.combinations(range(5), 2) if rng.random() < 0.5])
            self.assertEqual([colour_number(G, q) for q in range(5)], [map_number(G, full_graph(q)) for q in range(5)])


def turned(f, m, l):
    led = f if m is None else tuple(f[x] for x in m)
    return led if l is None else tuple(l[v] for v in led)


class Templates(unittest.TestCase):
    """Number 2: questions about templates as instances."""

    def test_by_chance(self):
        for seed in range(60):
            rng = random.Random(seed)
            B = brute.structure(rng, brute.random_kind(rng, (1, 2, 3), 2), rng.choice((1, 2, 2, 3)), 6)
            every = list(itertools.product(range(B[0]), repeat=2))
            rows = tuple(sorted(rng.sample(every, min(2, len(every)))))
            marks = tuple(sum(row[j] * B[0] ** (len(rows) - 1 - i) for i, row in enumerate(rows)) for j in range(2))
            told = defined_rows(power_structure(B, len(rows)), marks, B)
            paper = defined_paper(B, rows)
            self.assertEqual((paper[0] == "formula", takes_defined(B, rows, paper)), (told == rows, True))
            self.assertIs(breaking_operation(B, rows) is None, told == rows)
            paper = decided_paper(B)
            self.assertEqual((paper[0] == "back", takes_decided(B, paper)), (is_list_decided(B), True))
            self.assertIs(least_map(list_structure(B), B) is not None, is_list_decided(B))
            if is_list_decided(B):
                A = brute.structure(rng, kind(B), 4, 6)
                self.assertIs(lists_stand(A, B), bool(plain_maps(A, B)))
            for word in ("majority", "maltsev", "minority"):
                paper = special_paper(B, word)
                self.assertEqual((paper[0] == "operation", takes_special(B, word, paper)), (special_operation(B, word) is not None, True))
            if B[0] == 2:
                A = brute.structure(rng, kind(B), 5, 6)
                for word in boolean_classes(B):
                    paper = class_paper(A, B, word)
                    self.assertEqual((paper[0] == "map", takes_class(A, B, word, paper)), (bool(plain_maps(A, B)), True))

    def test_cores_and_widths(self):
        for _, A, _ in pairs((1, 2, 3), many=30):
            paper, width = core_paper(A), width_paper(A)
            self.assertEqual((paper[1], takes_core(A, paper)), (core_points(A), True))
            self.assertEqual((width[1], takes_width(A, width)), (least_width(A), True))
            for k in (least_width(A) - 1, least_width(A)):
                told = within_paper(A, k)
                self.assertEqual((told[0], takes_within(A, k, told)), ("above" if k < least_width(A) else "within", True))


def line_of(name, A):
    """Lines that define a structure."""
    tables = A[1] or ((1, ()),)
    rows = " ".join(",".join(map(str, row)) for row in tables[0][1])
    yield f"table {name} = {A[0]} {tables[0][0]} {rows}"
    for arity, told in tables[1:]:
        yield f"more {name} {name} = {arity} " + " ".join(",".join(map(str, row)) for row in told)


class Worksheets(unittest.TestCase):
    """Each question of the table as a line, its log written, read and held right."""

    def test_by_chance(self):
        seen = {}
        for _, A, B in itertools.islice(pairs((1, 2)), 40):
            console = Console()
            for line in itertools.chain(line_of("a", A), line_of("b", B)):
                self.assertEqual(console.enter(line).kind, "structure")
            if A[1]:
                self.assertEqual(console.names(), {"a": A, "b": B})
            for word in ("map", "lists", "strategy", "colours", "even", "pairs", "words", "paths", "cycles", "same", "profile", "count",
                         "inject", "onto", "along", "layers"):
                reply = console.enter(f"{word} a b")
                seen.setdefault(word, set()).add((reply.kind, reply.text in ("yes", "no")))
            for line in ("core a", "width a", "within a 1", "decided b", "special b majority", "class a b least", "defined b 0 1",
                         "power c a 2", "crossed d a b", "beside e a b", "folded f a" + " 0" * A[0], "part g a", "show a", "spectrum a", "row a"):
                console.enter(line)
            entries = list(console)
            self.assertEqual(first_wrong(entries), -1)
            self.assertEqual(read_log(console.log()), entries)
        for word in ("map", "lists", "strategy", "colours", "even", "pairs", "words", "paths", "same", "profile"):
            self.assertIn((word, True), seen[word])


if __name__ == "__main__":
    unittest.main()
