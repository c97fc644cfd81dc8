"""Judges of papers of searches: points 16.1 and 16.6 to 16.10."""

import itertools
import random
import unittest
from fractions import Fraction

import brute
from brute import WRONG, directed_path, full_graph, graph, plain_maps, plain_structure, ring
from cases import Case
from judged import (
    bounds_holds, choice_holds, cycles_holds, kept_holds, kind, paths_holds, plain_traces, sameness_holds, search_holds,
    spoilt, words_holds)
from plain import ROOK, SHRIKHANDE, apart_rows, as_pairs, plain_letters, plain_turnings, shuffled
from probeweb.refutations import slim_refutation, span_refutation
from probeweb.searchjudges import (
    takes_bounds, takes_choice, takes_cycles, takes_kept, takes_paths, takes_sameness, takes_search, takes_words)
from probeweb.searchpapers import (
    bounds_paper, choice_paper, cutting_paper, cycles_paper, kept_paper, numbers_paper, paths_paper, sameness_paper,
    search_paper, words_paper)
from test_searchpapers import dots, pairs, rows_of_lists

NO_STRUCTURES = [value for value in WRONG if not plain_structure(value)]
EDGE, TRIANGLE, HEXAGON = full_graph(2), full_graph(3), ring(6)
TRIANGLES = graph(6, [(0, 1), (1, 2), (0, 2), (3, 4), (4, 5), (3, 5)])
EMPTY = (0, ((2, ()),))
LOOP = (1, ((2, ((0, 0),)),))


class Judged(Case):
    """The judges answer as the plain ones, and never take papers of both answers."""

    def held(self, takes, holds, told, papers, rng, many, yes):
        taken = set()
        tried = list(papers) + list(WRONG)
        for paper in papers:
            tried += [spoilt(rng, paper) for _ in range(many)] + [list(paper), paper + (0,), paper[:1], paper[::-1]]
        for paper in tried:
            right = holds(*told, paper)
            self.assertIs(takes(*told, paper), right, (told, paper))
            if right:
                taken.add(paper[0] in yes)
        self.assertLessEqual(len(taken), 1, told)
        return taken


class Searches(Judged):
    def test_by_chance(self):
        for seed, (A, B) in enumerate(pairs((1, 2, 3))):
            rng = random.Random(seed)
            papers = [search_paper(A, B), cutting_paper(A, B), search_paper(B, A), cutting_paper(B, A)]
            self.assertTrue(takes_search(A, B, papers[0]) and takes_search(A, B, papers[1]))
            papers += [("map", tuple(rng.randrange(max(B[0], 1)) for _ in range(A[0]))) for _ in range(3)]
            papers += [("map", f) for f in plain_maps(A, B)[:3]]
            papers += [("refuted", rows) for rows in (slim_refutation(A, B), span_small(A, B)) if rows is not None]
            self.held(takes_search, search_holds, (A, B), papers, rng, 20, ("map",))

    def test_known(self):
        # Without points on either side.
        self.assertTrue(takes_search(EMPTY, EDGE, ("map", ())))
        self.assertFalse(takes_search(EDGE, EMPTY, ("map", ())))
        self.assertTrue(takes_search(EDGE, EMPTY, ("refuted", (((), ("point", 0, ())),))))
        self.assertTrue(takes_search(EDGE, EMPTY, ("cut", ((((), 1), ("some", 0)),))))
        self.assertFalse(takes_search(EMPTY, EMPTY, ("refuted", ())))
        # They end in another row than the empty one, or have a reason that is not earlier.
        rows = slim_refutation(directed_path(3), directed_path(2))
        self.assertTrue(takes_search(directed_path(3), directed_path(2), ("refuted", rows)))
        self.assertFalse(takes_search(directed_path(3), directed_path(2), ("refuted", rows[:-1])))
        self.assertFalse(takes_search(directed_path(3), directed_path(2), ("refuted", rows[::-1])))
        self.assertFalse(takes_search(LOOP, EDGE, ("refuted", (((), ("point", 0, (0, 0))),))))
        self.assertTrue(takes_search(LOOP, EDGE, ("refuted", (((), ("fact", 0, 0, ())),))))
        some = ((((0, 0), 1), ((0, 1), 1)), 1)
        one = ((((0, 0), -1),), 0), ("fact", 0, 0, (0, 0))
        two = ((((0, 1), -1),), 0), ("fact", 0, 0, (1, 1))
        end = (((), 1), ("sum", ((0, 1), (1, 1), (2, 1))))
        cut = ((some, ("some", 0)), one, two, end)
        self.assertTrue(takes_search(LOOP, EDGE, ("cut", cut)))
        for rows in (cut[:3], cut[:3] + ((((), 1), ("sum", ((0, 1), (1, 1), (3, 1)))),), cut[1:], (end,),
                     cut[:3] + ((((), 2), ("sum", ((0, 1), (1, 1), (2, 1)))),), cut + cut[:1]):
            self.assertFalse(takes_search(LOOP, EDGE, ("cut", rows)))
        # A cutting that ends with the bound 0, or one below it, shows nothing.
        some, most = ((((0, 0), 1),), 1), ("some", 0)
        rows = ((some, most), (((((0, 0), -1),), -1), ("most", 0, 0)), (((), 0), ("sum", ((0, 1), (1, 1)))))
        self.assertFalse(takes_search(dots(1), dots(1), ("cut", rows)))
        self.assertTrue(search_holds(dots(1), EMPTY, ("cut", ((((), 1), ("some", 0)),))))
        both = (((((0, 0), 1),), 0), ("least", 0, 0)), (((((0, 0), -1),), -1), ("most", 0, 0))
        self.assertFalse(takes_search(LOOP, EDGE, ("cut", both + ((((), -1), ("sum", ((0, 1), (1, 1)))),))))
        self.assertFalse(takes_search(LOOP, LOOP, ("cut", (both[0], ((((0, 0), -1),), 0)))))


def span_small(A, B):
    return span_refutation(A, B) if max(kind(A), default=1) < 3 else None


def chance_rows(rng, A, B):
    """Pairs of points and sets, some of which hold all that is asked."""
    every = [(x, S) for x in range(A[0]) for size in range(1, B[0] + 1) for S in itertools.combinations(range(B[0]), size)]
    return tuple(sorted(row for row in every if rng.random() < 0.6))


class Words(Judged):
    def test_by_chance(self):
        for seed, (A, B) in enumerate(pairs((1, 2), most=3)):
            rng = random.Random(seed)
            letters = plain_letters(kind(A))
            papers = [words_paper(A, B), words_paper(B, A), ("within", chance_rows(rng, A, B))]
            self.assertTrue(takes_words(A, B, papers[0]))
            papers += [("word", tuple(rng.choice(letters) for _ in range(rng.randint(0, 6) if letters else 0)))]
            papers += [("within", tuple((x, (v,)) for x, v in enumerate(f))) for f in plain_maps(A, B)[:2]]
            self.held(takes_words, words_holds, (A, B), papers, rng, 20, ("within",))

    def test_lengths(self):
        path, longer = directed_path(2), directed_path(3)
        self.assertTrue(takes_words(longer, path, ("word", ((0, 0), (0, 0)))))
        self.assertFalse(takes_words(path, longer, ("word", ((0, 0), (0, 0)))))
        for size, right in ((2000, True), (2001, False), (2, True), (1000, True)):
            word = ((0, 0), (0, 0)) + ((0, 1), (0, 0)) * ((size - 2) // 2) + ((0, 1),) * (size % 2)
            self.assertEqual(len(word), size)
            self.assertIs(takes_words(longer, path, ("word", word)), right)
        self.assertFalse(takes_words(EMPTY, EMPTY, ("word", ())))
        self.assertTrue(takes_words(EDGE, EMPTY, ("word", ())))

    def test_rows(self):
        self.assertTrue(takes_words(EMPTY, EDGE, ("within", ())))
        right = ((0, (0,)), (1, (1,)))
        self.assertTrue(takes_words(EDGE, EDGE, ("within", right)))
        self.assertTrue(takes_words(EDGE, EDGE, ("within", ((0, (0, 1)), (1, (0, 1))))))
        self.assertTrue(takes_words(EDGE, EDGE, ("within", ((0, (0,)), (0, (0, 1)), (1, (1,))))))
        for rows in (((0, (0, 1)), (1, (0,)), (1, (1,))), right[::-1], right + right[-1:], ((0, ()),) + right, ((0, (0,)), (1, (2,))), right[:1], ((0, (0,)), (1, (0,))),
                     ((0, (0,)), (1, (1,)), (2, (0,))), ((0, (1, 0)), (1, (0,))), ((0, (0, 0)), (1, (1,))), ((0, 0), (1, 1)),
                     ((False, (0,)), (True, (1,))), list(right), ((0, [0]), (1, [1])), ((0, (0,), 0), (1, (1,), 0)),
                     ((-1, (0,)), (0, (0,)), (1, (1,)))):
            self.assertFalse(takes_words(EDGE, EDGE, ("within", rows)))
        # Sets that are led to have points that no pair has: a pair with fewer of them is enough.
        big = (60, ((2, tuple((x, y) for x in range(60) for y in range(60))),))
        every = tuple((x, tuple(range(60))) for x in range(60))
        self.assertTrue(takes_words(big, big, ("within", every)))
        self.assertTrue(takes_words(big, big, ("within", tuple((x, (x,)) for x in range(60)))))
        self.assertFalse(takes_words(big, big, ("within", every[:-1])))
        self.assertFalse(takes_words(big, dots(60), ("within", every)))


class Paths(Judged):
    def test_by_chance(self):
        for seed, (A, B) in enumerate(pairs((1, 2), most=3)):
            rng = random.Random(seed)
            letters = plain_letters(kind(A))
            papers = [paths_paper(A, B), paths_paper(B, A)]
            self.assertTrue(takes_paths(A, B, papers[0]))
            papers += [("word", tuple(rng.choice(letters) for _ in range(rng.randint(0, 6) if letters else 0)))]
            for m in plain_turnings(A, B)[:2]:
                papers.append(("matrix", as_pairs([[int(m[x] == y) for y in range(B[0])] for x in range(A[0])])))
            if A[0]:
                papers.append(("matrix", as_pairs([[Fraction(1, A[0])] * B[0]] * A[0])))
            self.held(takes_paths, paths_holds, (A, B), papers, rng, 20, ("matrix",))

    def test_known(self):
        sixth = (((1, 6),) * 6,) * 6
        self.assertTrue(takes_paths(HEXAGON, TRIANGLES, ("matrix", sixth)))
        for X in (((2, 12),) * 6,) * 6, sixth + sixth[:1], sixth[:5], ((((1, 6),) * 5),) * 6, (((1, 6),) * 7,) * 6, list(sixth), (), \
                ((1,) * 6,) * 6, (((1, 5),) * 6,) * 6:
            self.assertFalse(takes_paths(HEXAGON, TRIANGLES, ("matrix", X)))
        # Items below 0 and above 1 are right here.
        cold = as_pairs([[Fraction(2), Fraction(-1)], [Fraction(-1), Fraction(2)]])
        self.assertTrue(takes_paths(dots(2), dots(2), ("matrix", cold)))
        self.assertTrue(takes_paths(EDGE, EDGE, ("matrix", cold)))
        self.assertTrue(takes_paths(EMPTY, EMPTY, ("matrix", ())))
        self.assertFalse(takes_paths(EMPTY, EDGE, ("matrix", ())))
        self.assertFalse(takes_paths(EDGE, EMPTY, ("matrix", ((), ()))))
        # Without points in common numbers of points there is no such matrix.
        self.assertFalse(takes_paths(dots(1), dots(2), ("matrix", (((1, 2), (1, 2)),))))
        two = directed_path(2)
        for size, right in ((200, True), (201, False), (1, True), (0, True)):
            self.assertIs(takes_paths(HEXAGON, two, ("word", ((0, 0), (0, 1)) * (size // 2) + ((0, 0),) * (size % 2))), right)
        self.assertFalse(takes_paths(HEXAGON, TRIANGLES, ("word", ((0, 0),) * 200)))
        self.assertFalse(takes_paths(HEXAGON, two, ("word", ((0, 2),))))
        self.assertFalse(takes_paths(HEXAGON, two, ("word", ((0, False),))))
        # Exactly: numbers that are unlike by very little, and alike only modulo others.
        full, less = graph(12, [(x, y) for x in range(12) for y in range(x)]), graph(12, [(x, y) for x in range(12) for y in range(x)][1:])
        self.assertTrue(takes_paths(full, less, ("word", ((0, 0),) * 150)))


class Cycles(Judged):
    def test_by_chance(self):
        for seed in range(80):
            rng = random.Random(seed)
            A = brute.structure(rng, (2,), rng.randint(0, 4), 8)
            B = rng.choice((brute.structure(rng, (2,), rng.randint(0, 5), 8), shuffled(A, rng)))
            papers = [cycles_paper(A, B), cycles_paper(B, A), cycles_paper(A, A), cycles_paper(B, B),
                      ("cycle", rng.randint(1, 8))]
            self.assertTrue(takes_cycles(A, B, papers[0]))
            self.held(takes_cycles, cycles_holds, (A, B), papers, rng, 25, ("alike",))

    def test_known(self):
        for k in (0, -1, 61, 10 ** 60, True, False, None, "3", (3,), 3.0):
            self.assertFalse(takes_cycles(LOOP, dots(1), ("cycle", k)))
        for k in (1, 2, 59, 60):
            self.assertTrue(takes_cycles(LOOP, dots(1), ("cycle", k)))
            self.assertIs(takes_cycles(EDGE, dots(1), ("cycle", k)), k % 2 == 0)
        self.assertTrue(takes_cycles(EDGE, graph(4, [(1, 3)]), ("alike", (1, 0, -1, 0, 0))))
        for row in ((1, 0, -1), (1, 0, -1, 0), (1, 0, -1, 0, 0, 0), (True, 0, -1, 0, 0), (1, 0, -1, False, 0), (-1, 0, 1, 0, 0),
                    (1, 0, -1, 0, 1), [1, 0, -1, 0, 0], (2, 0, -2, 0, 0)):
            self.assertFalse(takes_cycles(EDGE, graph(4, [(1, 3)]), ("alike", row)))
        self.assertTrue(takes_cycles(EMPTY, EMPTY, ("alike", (1,))))
        self.assertTrue(takes_cycles(EMPTY, dots(2), ("alike", (1, 0, 0))))
        self.assertFalse(takes_cycles(EMPTY, LOOP, ("alike", (1, -1))))
        self.assertFalse(takes_cycles(LOOP, EMPTY, ("alike", (1, -1))))
        self.assertTrue(takes_cycles(ROOK, SHRIKHANDE, cycles_paper(ROOK, SHRIKHANDE)))
        # The numbers for the greatest structures.
        big = (60, ((2, tuple((x, y) for x in range(60) for y in range(60))),))
        self.assertTrue(takes_cycles(big, big, ("alike", (1, -60) + (0,) * 59)))
        self.assertFalse(takes_cycles(big, dots(60), ("alike", (1, -60) + (0,) * 59)))
        self.assertEqual(plain_traces(TRIANGLE, 3), [0, 6, 6])


class Sameness(Judged):
    def test_by_chance(self):
        for seed, (A, B) in enumerate(pairs((1, 2, 3), many=50)):
            rng = random.Random(seed)
            papers = [sameness_paper(A, B), numbers_paper(A, B), sameness_paper(B, A), numbers_paper(B, A)]
            self.assertTrue(takes_sameness(A, B, papers[0]) and takes_sameness(A, B, papers[1]))
            papers += [("turned", tuple(rng.sample(range(A[0]), A[0]))) for _ in range(2)]
            papers.append(("numbers", brute.structure(rng, kind(A), rng.randint(0, 3), 3)))
            self.held(takes_sameness, sameness_holds, (A, B), papers, rng, 15, ("turned",))

    def test_partings(self):
        words = set()
        for A, B in ((HEXAGON, TRIANGLES), (ring(8), graph(8, [(k, (k + 1) % 4) for k in range(4)] +
                                                           [(4 + k, 4 + (k + 1) % 4) for k in range(4)]))):
            rows = sameness_paper(A, B)[1]
            words |= {reason[0] for _, reason in rows}
            self.assertTrue(takes_sameness(A, B, ("apart", rows)))
            # Without the last row, with rows behind it, in another order; each row is needed.
            self.assertFalse(takes_sameness(A, B, ("apart", rows[:-1])))
            self.assertFalse(takes_sameness(A, B, ("apart", rows + rows[:1])))
            self.assertTrue(takes_sameness(A, B, ("apart", rows + rows[-1:])))
            self.assertFalse(takes_sameness(A, B, ("apart", rows[::-1])))
            self.assertTrue(takes_sameness(A, B, ("apart", rows[:1] + rows)) or len(rows) > 1)
            self.assertFalse(takes_sameness(A, A, ("apart", rows)))
            self.assertFalse(takes_sameness(A, B, ("apart", ())))
        self.assertEqual(words, {"colours", "cases"})
        # More than six tables may come together.
        many = (8, HEXAGON[1] * 6)
        other = (8, TRIANGLES[1] * 6)
        paper = sameness_paper(many, other)
        self.assertTrue(takes_sameness(many, other, paper))

    def test_rows_of_partings(self):
        # Each row must be a right one, also one that no later row names.
        A, B, end = dots(2), EDGE, ((((), ()), ("colours",)),)
        self.assertTrue(takes_sameness(A, B, ("apart", end)))
        for row in ((((0,), (0,)), ("colours",)), (((1, 0), (0, 1)), ("colours",)), (((0, 1), (0, 1)), ("colours",)), end[0]):
            self.assertTrue(takes_sameness(A, B, ("apart", (row,) + end)))
        for fixed in (((0,), ()), ((), (0,)), ((0,), (2,)), ((2,), (0,)), ((-1,), (0,)), ((0,), (-1,)), ((0, 0), (0, 1)), ((0, 1), (1, 1)),
                      ((True,), (0,)), ((0,), (False,)), ([0], [0]), ((0,), [0]), ((0,), (0,), ()), ((0,),), (0, 0), None, (None, None), ()):
            self.assertFalse(takes_sameness(A, B, ("apart", ((fixed, ("colours",)),) + end)), fixed)
        one, two = (((0,), (0,)), ("colours",)), (((0,), (1,)), ("colours",))
        cases = (one, two, (((), ()), ("cases", 0, (0, 1))))
        self.assertTrue(takes_sameness(A, B, ("apart", cases)))
        for reason in (("cases", 0, (1, 0)), ("cases", 1, (0, 1)), ("cases", 0, (0,)), ("cases", 0, (0, 1, 1)), ("cases", 2, (0, 1)), ("cases", 0, ()),
                       ("cases", False, (0, 1)), ("cases", 0, (0, True)), ("cases", 0, [0, 1]), ("cases", 0, (0, 2)), ("cases", 0, (-3, 1)),
                       ("case", 0, (0, 1)), ("colours", 0, (0, 1)), ("cases", 0), ("cases", 0, (0, 1), ()), ["colours"], ("colour",), (), None,
                       ("cases", None, (0, 1)), ("cases", -1, (0, 1))):
            self.assertFalse(takes_sameness(A, B, ("apart", cases[:2] + ((((), ()), reason),))), reason)
        # With all points of `B` fixed no index is left, and a point of `A` that is not fixed must be.
        every = ((0, 1), (0, 1))
        self.assertFalse(takes_sameness(A, B, ("apart", ((every, ("cases", 0, ())),) + end)))
        self.assertTrue(takes_sameness(dots(3), dots(2), ("apart", ((every, ("cases", 2, ())),) + end)))
        # Structures that are the same have no parting, whatever its rows are.
        self.assertFalse(takes_sameness(A, A, ("apart", cases)))
        self.assertFalse(takes_sameness(A, A, ("apart", ((every, ("cases", 0, ())), (((0,), (0,)), ("cases", 1, (0,)))) + end)))

    def test_long_refinement(self):
        # Here the judge refines structures of as many points as there can be.
        paper = ("apart", ((((), ()), ("colours",)),))
        path = directed_path(60)
        ends = (60, ((2, path[1][0][1]), (1, ((0,),))))
        turned = (60, ((2, path[1][0][1]), (1, ((59,),))))
        self.assertFalse(takes_sameness(ends, ends, paper))
        self.assertTrue(takes_sameness(ends, turned, paper))
        # A path with a mark beside its middle, and one with it on the other side, are the same.
        marked = [(60, (graph(60, [(k, k + 1) for k in range(59)])[1][0], (1, ((x,),)))) for x in (29, 30, 31)]
        self.assertFalse(takes_sameness(marked[0], marked[1], paper))
        self.assertTrue(takes_sameness(marked[0], marked[2], paper))
        circle = graph(60, [(k, (k + 1) % 60) for k in range(60)])
        halves = graph(60, [(k + j, (k + 1) % 30 + j) for k in range(30) for j in (0, 30)])
        self.assertFalse(takes_sameness(circle, halves, paper))
        cases = tuple((((0,), (y,)), ("colours",)) for y in range(60)) + ((((), ()), ("cases", 0, tuple(range(60)))),)
        self.assertTrue(takes_sameness(circle, halves, ("apart", cases)))
        self.assertFalse(takes_sameness(circle, halves, ("apart", cases[:-1])))

    def test_numbers(self):
        # Point 16.9: both powers are at most 5000.
        loops = (60, ((2, tuple((x, x) for x in range(60))),))
        for f, right in ((1, True), (2, True), (3, False)):
            self.assertIs(takes_sameness(loops, dots(60), ("numbers", (f, ((2, ((0, 0),)),)))), right)
        one, two = (1, ((2, ((0, 0),)),)), dots(1)
        self.assertTrue(takes_sameness(one, two, ("numbers", (60, ((2, ((0, 0),)),)))))
        pair = (2, ((2, ((0, 0), (1, 1))),))
        self.assertTrue(takes_sameness(pair, dots(2), ("numbers", (12, ((2, ((0, 0),)),)))))
        self.assertFalse(takes_sameness(pair, dots(2), ("numbers", (13, ((2, ((0, 0),)),)))))
        self.assertFalse(takes_sameness(pair, dots(1), ("numbers", (13, ((2, ((0, 0),)),)))))
        self.assertFalse(takes_sameness(dots(1), pair, ("numbers", (13, ((2, ((0, 0),)),)))))
        self.assertTrue(takes_sameness(dots(17), dots(16), ("numbers", dots(3))))
        self.assertFalse(takes_sameness(dots(18), dots(16), ("numbers", dots(3))))
        # Without points: 0 to the power 0 is 1.
        self.assertFalse(takes_sameness(EMPTY, one, ("numbers", EMPTY)))
        self.assertTrue(takes_sameness(EMPTY, one, ("numbers", dots(1))))
        for F in (dots(1, 1), (1, ()), (1, ((2, ()), (2, ()))), None, (1, ((2, ((0, 1),)),)), [1, ((2, ()),)], (True, ((2, ()),))):
            self.assertFalse(takes_sameness(EMPTY, one, ("numbers", F)))

    def test_turnings(self):
        for m in ((0, 1, 2), (0, 1), (0, 1, 1, 2), (0, 1, 2, 4), (3, 2, 1, 0), (False, True, 2, 3), [3, 2, 1, 0], (1, 2, 3, 0)):
            path = graph(4, [(0, 1), (1, 2), (2, 3)])
            self.assertIs(takes_sameness(path, path, ("turned", m)), m == (3, 2, 1, 0))
        self.assertFalse(takes_sameness(dots(2), dots(3), ("turned", (0, 1))))


class Choices(Judged):
    def test_choice(self):
        for rng, lists, m in rows_of_lists():
            papers = [choice_paper(lists, m), ("hall", tuple(range(len(lists)))), ("choice", (0,) * len(lists))]
            self.assertTrue(takes_choice(lists, m, papers[0]))
            papers += [("choice", row) for row in apart_rows(lists)[:2]] + [("hall", (k,)) for k in range(-1, 3)]
            self.held(takes_choice, choice_holds, (lists, m), papers, rng, 15, ("choice",))

    def test_kept(self):
        for rng, lists, m in rows_of_lists(100):
            for x, row in enumerate(lists):
                for v in row:
                    papers = [kept_paper(lists, m, x, v), choice_paper(lists, m), ("tight", tuple(range(len(lists))))]
                    self.assertTrue(takes_kept(lists, m, x, v, papers[0]))
                    papers += [("tight", tuple(k for k in range(len(lists)) if k != x)), ("tight", ()), ("tight", (x,))]
                    papers += [("choice", told) for told in apart_rows(lists)[:3]]
                    self.held(takes_kept, kept_holds, (lists, m, x, v), papers, rng, 8, ("choice",))

    def test_bounds(self):
        for rng, lists, m in rows_of_lists():
            bounds = []
            for _ in range(m):
                low = rng.randint(0, 2)
                bounds.append((low, low + rng.randint(0, 2)))
            told = (lists, m, tuple(bounds))
            papers = [bounds_paper(*told), ("high", tuple(range(len(lists)))), ("low", tuple(range(m)))]
            self.assertTrue(takes_bounds(*told, papers[0]))
            papers += [("choice", tuple(rng.choice(row) if row else 0 for row in lists)), ("low", ()), ("high", ())]
            self.held(takes_bounds, bounds_holds, told, papers, rng, 15, ("choice",))

    def test_known(self):
        lists = ((0, 1), (0, 1), (0, 1, 2))
        self.assertTrue(takes_kept(lists, 3, 2, 0, ("tight", (0, 1))))
        # A tight set that has `x`, papers of the other questions, places that are not ascending.
        for paper in (("tight", (0, 1, 2)), ("tight", (1, 0)), ("tight", (0, 1, 1)), ("choice", (0, 1, 2)), ("hall", (0, 1)),
                      ("high", (0, 1)), ("low", (0, 1)), ("tight", (0,)), ("tight", (False, True)), ("tight", [0, 1])):
            self.assertFalse(takes_kept(lists, 3, 2, 0, paper))
        self.assertFalse(takes_choice(lists, 3, ("tight", (0, 1))))
        none = ((0, 1),) * 3
        self.assertTrue(takes_choice(none, 2, ("hall", (0, 1, 2))))
        self.assertTrue(takes_kept(none, 2, 0, 0, ("hall", (0, 1, 2))))
        self.assertTrue(takes_kept(none, 2, 0, 0, ("tight", (1, 2))))
        for S in ((2, 1, 0), (0, 0, 1), (0, 1), (), (0, 1, 2, 3), (0, 1, True), [0, 1, 2]):
            self.assertFalse(takes_choice(none, 2, ("hall", S)))
        self.assertTrue(takes_choice((), 0, ("choice", ())))
        self.assertFalse(takes_choice((), 0, ("hall", ())))
        self.assertTrue(takes_choice(((),), 0, ("hall", (0,))))
        self.assertFalse(takes_choice(lists, 3, ("choice", (False, True, 2))))
        bounds = ((0, 1), (0, 1), (2, 2))
        self.assertTrue(takes_bounds(lists, 3, bounds, ("low", (2,))))
        self.assertFalse(takes_bounds(lists, 3, bounds, ("low", (2, 2))))
        self.assertFalse(takes_bounds(lists, 3, bounds, ("low", (3,))))
        self.assertFalse(takes_bounds(lists, 3, bounds, ("high", (0, 1, 2))))
        self.assertTrue(takes_bounds(lists, 3, ((0, 1), (0, 0), (0, 9)), ("high", (0, 1))))
        self.assertFalse(takes_bounds(lists, 3, ((0, 1), (0, 0), (0, 9)), ("high", (1, 0))))
        self.assertTrue(takes_bounds(lists, 3, ((0, 3), (0, 0), (0, 9)), ("choice", (0, 0, 2))))
        self.assertFalse(takes_bounds(lists, 3, ((0, 3), (0, 0), (0, 9)), ("hall", (0, 1))))


class Errors(Case):
    def test_malformed(self):
        for ask in (takes_search, takes_words, takes_paths, takes_cycles, takes_sameness):
            for paper in (None, ("map", ()), ("word", ()), ("turned", ())):
                self.malformed_pairs(ask, NO_STRUCTURES, EDGE, paper)
                self.malformed(ask, EDGE, dots(2, 1), paper)
            self.assertIs(ask(dots(60), dots(60), None), False)
        for ask in (takes_words, takes_paths):
            self.malformed(ask, dots(1, 3), dots(1, 3), ("word", ()))
        for A in (dots(1, 1), (1, ()), (1, ((2, ()), (2, ()))), dots(1, 3)):
            self.malformed(takes_cycles, A, A, ("cycle", 1))
            self.malformed(takes_cycles, EDGE, A, None)

    def test_choices(self):
        for lists, m in ((None, 3), ([], 3), (((3,),), 3), (((1, 0),), 3), (((0,),), 61), (((0,),), True), (((0,),) * 61, 3)):
            for paper in (None, ("choice", (0,)), ("hall", (0,))):
                self.malformed(takes_choice, lists, m, paper)
                self.malformed(takes_kept, lists, m, 0, 0, paper)
                self.malformed(takes_bounds, lists, m, ((0, 1),) * 3, paper)
        lists = ((0, 1), (0, 1), (0, 1))
        for x, v in ((3, 0), (-1, 0), (True, 0), (None, 0), (0, 2), (0, True), (0, None)):
            self.malformed(takes_kept, lists, 3, x, v, ("hall", (0, 1, 2)))
        for bounds in (None, (), ((0, 1),) * 2, ((0, 1),) * 4, [(0, 1)] * 3, ((1, 0),) * 3, ((-1, 1),) * 3, ((0, True),) * 3):
            self.malformed(takes_bounds, lists, 3, bounds, ("choice", (0, 0, 0)))


if __name__ == "__main__":
    unittest.main()
