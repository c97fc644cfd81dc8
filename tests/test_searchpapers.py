"""Papers of searches: points 16.6 to 16.10, and the errors of the functions that make them."""

import itertools
import random
import unittest

import brute
from brute import WRONG, directed_path, full_graph, graph, plain_maps, plain_structure, ring
from cases import Case
from judged import (
    bounds_holds, choice_holds, cycles_holds, kept_holds, paths_holds, plain_traces, sameness_holds, search_holds,
    words_holds)
from plain import all_words, apart_rows, plain_letters, plain_turnings, plain_word_number, reach, shuffled
from probeweb.cuttings import cutting_from
from probeweb.global_rows import bound_barrier, bounded_choice, hall_choice, hall_set, tight_set
from probeweb.matrices import path_matrix
from probeweb.refutations import case_refutation
from probeweb.sameness import case_parting, folding_apart
from probeweb.searchpapers import (
    bounds_paper, choice_paper, cutting_paper, cycles_paper, kept_paper, numbers_paper, paths_paper, sameness_paper,
    search_paper, words_paper)

NO_STRUCTURES = [value for value in WRONG if not plain_structure(value)]
EDGE, TRIANGLE, HEXAGON = full_graph(2), full_graph(3), ring(6)
TRIANGLES = graph(6, [(0, 1), (1, 2), (0, 2), (3, 4), (4, 5), (3, 5)])
EMPTY = (0, ((2, ()),))


def dots(n, arity=2):
    return (n, ((arity, ()),))


def pairs(arities, many=80, kinds=2, most=4):
    for seed in range(many):
        rng = random.Random(seed)
        arity = brute.random_kind(rng, arities, kinds)
        n = rng.randint(0, most)
        A = brute.structure(rng, arity, n, 6)
        yield A, brute.structure(rng, arity, rng.choice((n, rng.randint(0, most))), 6)
        yield A, shuffled(A, rng)
    for A, B in ((TRIANGLE, EDGE), (EDGE, TRIANGLE), (EMPTY, EDGE), (EDGE, EMPTY), (EMPTY, EMPTY)):
        yield A, B


class Searches(Case):
    def test_search(self):
        seen = set()
        for A, B in pairs((1, 2, 3)):
            maps = plain_maps(A, B)
            for paper, words in ((search_paper(A, B), ("map", "refuted")), (cutting_paper(A, B), ("map", "cut"))):
                self.assertTrue(search_holds(A, B, paper))
                self.assertEqual(paper[0], words[0] if maps else words[1])
                seen.add(paper[0])
                if maps:
                    self.assertEqual(paper, ("map", maps[0]))
            if not maps:
                rows = case_refutation(A, B)
                self.assertEqual((search_paper(A, B), cutting_paper(A, B)),
                                 (("refuted", rows), ("cut", cutting_from(A, B, rows))))
        self.assertEqual(seen, {"map", "refuted", "cut"})

    def test_words(self):
        seen = set()
        for A, B in pairs((1, 2)):
            paper = words_paper(A, B)
            self.assertTrue(words_holds(A, B, paper))
            least = [w for w in all_words(plain_letters([a for a, _ in A[1]]), 3)
                     if plain_word_number(A, w) and not plain_word_number(B, w)]
            if least:
                self.assertEqual(paper, ("word", least[0]))
            else:
                self.assertTrue(paper[0] == "within" or len(paper[1]) > 3)
            seen.add(paper[0])
        self.assertEqual(seen, {"word", "within"})
        self.assertEqual(words_paper(EDGE, EMPTY), ("word", ()))
        self.assertEqual(words_paper(EMPTY, EDGE), ("within", ()))
        self.assertEqual(words_paper(EDGE, EDGE), ("within", ((0, (0, 1)), (1, (0, 1)))))

    def test_paths(self):
        seen = set()
        for A, B in pairs((1, 2)):
            paper = paths_paper(A, B)
            self.assertTrue(paths_holds(A, B, paper))
            unlike = [w for w in all_words(plain_letters([a for a, _ in A[1]]), 3)
                      if plain_word_number(A, w) != plain_word_number(B, w)]
            if unlike:
                self.assertEqual(paper, ("word", unlike[0]))
            elif paper[0] == "matrix":
                self.assertEqual(paper[1], path_matrix(A, B))
            seen.add(paper[0])
        self.assertEqual(seen, {"word", "matrix"})
        self.assertEqual((paths_paper(EMPTY, EMPTY), paths_paper(EMPTY, EDGE)), (("matrix", ()), ("word", ())))

    def test_cycles(self):
        seen = set()
        for seed in range(150):
            rng = random.Random(seed)
            A = brute.structure(rng, (2,), rng.randint(0, 5), 9)
            B = rng.choice((brute.structure(rng, (2,), rng.randint(0, 5), 9), shuffled(A, rng)))
            paper = cycles_paper(A, B)
            self.assertTrue(cycles_holds(A, B, paper))
            one, two = plain_traces(A, 12), plain_traces(B, 12)
            unlike = [k + 1 for k in range(12) if one[k] != two[k]]
            self.assertEqual(paper[0], "cycle" if unlike else "alike")
            if unlike:
                self.assertEqual(paper, ("cycle", unlike[0]))
            seen.add(paper[0])
        self.assertEqual(seen, {"cycle", "alike"})
        # Spectra that are equal up to zeros at the end.
        self.assertEqual(cycles_paper(dots(3), dots(5)), ("alike", (1, 0, 0, 0, 0, 0)))
        self.assertEqual(cycles_paper(EMPTY, EMPTY), ("alike", (1,)))
        self.assertEqual(cycles_paper(HEXAGON, TRIANGLES), ("cycle", 3))
        self.assertEqual(cycles_paper(EDGE, graph(4, [(1, 3)])), ("alike", (1, 0, -1, 0, 0)))

    def test_sameness(self):
        seen = set()
        for A, B in pairs((1, 2, 3)):
            turnings = plain_turnings(A, B)
            one, two = sameness_paper(A, B), numbers_paper(A, B)
            if turnings:
                self.assertEqual((one, two), (("turned", turnings[0]),) * 2)
            else:
                self.assertEqual(one, ("apart", case_parting(A, B)))
                self.assertEqual(two, ("numbers", folding_apart(A, B)))
            self.assertTrue(sameness_holds(A, B, one) and sameness_holds(A, B, two))
            seen |= {one[0], two[0]}
        self.assertEqual(seen, {"turned", "apart", "numbers"})
        self.assertEqual(sameness_paper(HEXAGON, TRIANGLES)[0], "apart")
        self.assertEqual(sameness_paper(EMPTY, EMPTY), ("turned", ()))


def rows_of_lists(many=150):
    for seed in range(many):
        rng = random.Random(seed)
        m = rng.randint(0, 5)
        n = rng.randint(0, 5)
        yield rng, tuple(tuple(v for v in range(m) if rng.random() < 0.5) for _ in range(n)), m


class Choices(Case):
    def test_choice(self):
        seen = set()
        for _, lists, m in rows_of_lists():
            paper = choice_paper(lists, m)
            self.assertTrue(choice_holds(lists, m, paper))
            rows = apart_rows(lists)
            seen.add(paper[0])
            if rows:
                self.assertEqual(paper, ("choice", rows[0]))
                self.assertEqual(paper[1], hall_choice(lists, m))
            else:
                self.assertEqual(paper, ("hall", hall_set(lists, m)))
        self.assertEqual(seen, {"choice", "hall"})
        self.assertEqual((choice_paper((), 0), choice_paper(((),), 3)), (("choice", ()), ("hall", (0,))))

    def test_kept(self):
        seen = set()
        for _, lists, m in rows_of_lists():
            rows = apart_rows(lists)
            for x, row in enumerate(lists):
                for v in row:
                    paper = kept_paper(lists, m, x, v)
                    self.assertTrue(kept_holds(lists, m, x, v, paper))
                    seen.add(paper[0])
                    told = "hall" if not rows else "choice" if any(told[x] == v for told in rows) else "tight"
                    self.assertEqual(paper[0], told)
                    if told == "tight":
                        self.assertEqual(paper[1], tight_set(lists, m, x, v))
        self.assertEqual(seen, {"choice", "tight", "hall"})

    def test_bounds(self):
        seen = set()
        for rng, lists, m in rows_of_lists(300):
            bounds = []
            for _ in range(m):
                low = rng.randint(0, 2)
                bounds.append((low, low + rng.randint(0, 2)))
            paper = bounds_paper(lists, m, tuple(bounds))
            self.assertTrue(bounds_holds(lists, m, bounds, paper))
            rows = [row for row in itertools.product(*lists) if bounds_holds(lists, m, bounds, ("choice", row))]
            self.assertIs(paper[0] == "choice", bool(rows))
            seen.add(paper[0])
            told = bounded_choice(lists, m, tuple(bounds))
            self.assertEqual(paper, bound_barrier(lists, m, tuple(bounds)) if told is None else ("choice", told))
        self.assertEqual(seen, {"choice", "high", "low"})
        self.assertEqual(reach(((0, 2), (1,)), (0, 1)), {0, 1, 2})


class Errors(Case):
    def test_malformed(self):
        for ask in (search_paper, cutting_paper, words_paper, paths_paper, cycles_paper, sameness_paper, numbers_paper):
            self.malformed_pairs(ask, NO_STRUCTURES, EDGE)
            self.malformed(ask, EDGE, dots(2, 1))
            # Malformed goes ahead of Refused.
            self.malformed(ask, dots(60), dots(60, 1))
            self.malformed(ask, dots(60), None)
        for ask in (words_paper, paths_paper):
            self.malformed(ask, dots(60, 3), dots(60, 3))
        for A in (dots(60, 1), (60, ()), (60, ((2, ()), (2, ()))), dots(60, 3)):
            self.malformed(cycles_paper, A, A)
            self.malformed(cycles_paper, dots(60), A)

    def test_refused(self):
        for ask, one, two in ((search_paper, 24, 8), (cutting_paper, 24, 8), (words_paper, 40, 10), (paths_paper, 16, 16),
                              (cycles_paper, 20, 20), (sameness_paper, 12, 12), (numbers_paper, 5, 5)):
            self.assertEqual(len(ask(dots(one), dots(two))), 2)
            self.refuses("large", ask, dots(one + 1), dots(two))
            self.refuses("large", ask, dots(one), dots(two + 1))
        # Also where the two are the same.
        self.refuses("large", sameness_paper, dots(13), dots(13))
        self.refuses("large", numbers_paper, dots(6), dots(6))
        # Nine joined points into eight are refused behind the search for a map.
        self.refuses("large", search_paper, full_graph(9), full_graph(8))
        self.assertEqual(search_paper(full_graph(8), full_graph(8))[0], "map")

    def test_choices(self):
        for lists, m in ((None, 3), ([], 3), ([()], 3), (((3,),), 3), (((1, 0),), 3), (((0, 0),), 3), (((True,),), 3),
                         (((0,),), 61), (((0,),), -1), (((0,),), True), (((0,),), None), (((0,),) * 61, 3), (((0.5,),), 3)):
            self.malformed(choice_paper, lists, m)
            self.malformed(kept_paper, lists, m, 0, 0)
            self.malformed(bounds_paper, lists, m, ((0, 1),) * 3)
        full, none = ((0, 1), (0, 1), (0, 1, 2)), ((0, 1), (0, 1), (0, 1))
        for lists in (full, none):
            for x, v in ((3, 0), (-1, 0), (True, 0), (None, 0), (0, 2), (0, -1), (0, True), (0, None), ((0,), 0), (0, "0")):
                self.malformed(kept_paper, lists, 3, x, v)
            for bounds in (None, (), ((0, 1),) * 2, ((0, 1),) * 4, [(0, 1)] * 3, ((1, 0),) * 3, ((-1, 1),) * 3,
                           ((False, 1),) * 3, ((0, True),) * 3, ((0,),) * 3, ((0, 1, 2),) * 3):
                self.malformed(bounds_paper, lists, 3, bounds)

    def test_greatest(self):
        lists = tuple(tuple(range(60)) for _ in range(60))
        self.assertEqual(choice_paper(lists, 60), ("choice", tuple(range(60))))
        self.assertEqual(kept_paper(lists, 60, 59, 0)[0], "choice")
        self.assertEqual(bounds_paper(lists, 60, ((1, 1),) * 60)[0], "choice")
        self.assertEqual(bounds_paper(lists, 60, ((2, 2),) * 60)[0], "low")
        self.assertEqual(words_paper(directed_path(4), directed_path(3))[0], "word")


if __name__ == "__main__":
    unittest.main()
