"""Papers of templates: points 16.14 to 16.17."""

import itertools
import random
import unittest

import brute
from brute import WRONG, plain_maps, plain_structure, ring
from cases import Case
from judged_templates import (
    CLASSES, breaks, class_holds, class_is_held, decided_holds, defined_holds, is_operation_of, special_holds)
from plain import is_of_kind, plain_keeps, plain_list_structure, plain_operations
from probeweb.operations import breaking_operation, special_operation
from probeweb.templatepapers import class_paper, decided_paper, defined_paper, special_paper
from probeweb.templates import list_map

NO_STRUCTURES = [value for value in WRONG if not plain_structure(value)]
ORDER = (2, ((2, ((0, 0), (0, 1), (1, 1))),))
UNLIKE = (2, ((2, ((0, 1), (1, 0))),))
WORDS = ("majority", "maltsev", "minority")


def dots(n, arity=2):
    return (n, ((arity, ()),))


def templates(many, sizes, most=6, arities=(1, 2, 3), kinds=2):
    for seed in range(many):
        rng = random.Random(seed)
        told = brute.random_kind(rng, arities, kinds)
        yield rng, brute.structure(rng, told, rng.choice(sizes), most)


def definable(B, rows):
    """True if each operation of as many arguments keeps the table."""
    return all(plain_keeps(f, B[0], len(rows), rows) for f in plain_operations(B, len(rows)))


def tables(rng, n, most):
    arity = rng.choice((1, 2, 3))
    every = list(itertools.product(range(n), repeat=arity))
    return tuple(sorted(rng.sample(every, min(len(every), rng.randint(1, most)))))


class Defined(Case):
    def test_by_chance(self):
        words = set()
        for rng, B in templates(120, (1, 2, 2, 3)):
            rows = tables(rng, B[0], 3 if B[0] < 3 else 1)
            paper = defined_paper(B, rows)
            right = definable(B, rows)
            self.assertTrue(defined_holds(B, rows, right, paper))
            self.assertEqual(paper[0], "formula" if right else "operation")
            f = breaking_operation(B, rows)
            self.assertEqual(paper, ("formula",) if right else ("operation", f))
            words.add(paper[0])
        self.assertEqual(words, {"formula", "operation"})
        self.assertEqual(defined_paper(ORDER, ((0, 1), (1, 0))), ("operation", (0, 0, 0, 0)))
        self.assertEqual(defined_paper(ORDER, ((0, 0), (1, 1))), ("formula",))

    def test_errors(self):
        six = tuple(itertools.product(range(3), repeat=2))[:6]
        for value in NO_STRUCTURES + [dots(0)]:
            self.malformed(defined_paper, value, ((0, 0),))
        for rows in (None, (), six, [(0, 1)], ((1, 0), (0, 1)), ((0, 1), (0, 1)), ((0, 1), (0,)), ((0, 2),), ((0, True),),
                     ((0, 1, 0, 1),), ((),), ("01",), ((0, -1),)):
            self.malformed(defined_paper, ORDER, rows)
        self.malformed(defined_paper, dots(60), ((0, 60),))
        self.assertEqual(defined_paper(dots(60), ((0,),))[0], "operation")
        self.assertEqual(defined_paper(dots(7), ((0,), (1,)))[0], "operation")
        self.refuses("large", defined_paper, dots(8), ((0,), (1,)))
        every = tuple(itertools.product((0, 1), repeat=3))
        self.assertEqual(defined_paper((2, ()), every[:5])[0], "operation")
        self.refuses("large", defined_paper, (2, ((3, every),)), every[:5])


class Decided(Case):
    def test_by_chance(self):
        words = set()
        for _, B in templates(80, (1, 2, 3)):
            paper = decided_paper(B)
            self.assertTrue(decided_holds(B, paper))
            told = list_map(B)
            if told is not None:
                self.assertEqual(paper, ("back", told))
            # Point 11.2: in the other case no function at all is a map.
            if B[0] < 3:
                self.assertIs(paper[0] == "back", bool(plain_maps(plain_list_structure(B), B)))
            words.add(paper[0])
        self.assertEqual(words, {"back", "stuck"})
        self.assertEqual((decided_paper(ORDER), decided_paper(UNLIKE)[0]), (("back", (0, 0, 0)), "stuck"))
        self.assertEqual(decided_paper((1, ())), ("back", (0,)))

    def test_errors(self):
        for value in NO_STRUCTURES + [dots(0)]:
            self.malformed(decided_paper, value)
        self.assertEqual(decided_paper(dots(3))[0], "back")
        for n in (4, 5, 6, 60):
            self.refuses("large", decided_paper, dots(n))
        every = (3, ((3, tuple(itertools.product(range(3), repeat=3))),) * 6)
        self.assertEqual(decided_paper(every)[0], "back")


class Special(Case):
    def test_by_chance(self):
        words = set()
        for _, B in templates(80, (1, 2, 3), most=5):
            for word in WORDS:
                paper = special_paper(B, word)
                self.assertTrue(special_holds(B, word, paper))
                self.assertEqual(paper[0], "none" if special_operation(B, word) is None else "operation")
                if paper[0] == "operation":
                    self.assertEqual(paper[1], special_operation(B, word))
                elif B[0] < 3:
                    self.assertFalse([f for f in plain_operations(B, 3) if is_of_kind(f, B[0], word)])
                words.add((word, paper[0]))
        self.assertEqual(len(words), 6)
        self.assertEqual(special_paper(ORDER, "majority"), ("operation", (0, 0, 0, 1, 0, 1, 1, 1)))
        self.assertEqual((special_paper(ORDER, "maltsev")[0], special_paper(UNLIKE, "minority")[0]), ("none", "operation"))

    def test_errors(self):
        for value in NO_STRUCTURES + [dots(0)]:
            self.malformed(special_paper, value, "majority")
        # The two other words of point 10.5, and what is no word.
        for word in ("semilattice", "constant", "", "Majority", None, 3, ("majority",), True):
            self.malformed(special_paper, ORDER, word)
            self.malformed(special_paper, dots(60), word)
        four = (2, ((1, ()),) * 4)
        self.assertEqual(special_paper((2, ((1, ()),) * 3), "majority")[0], "operation")
        self.refuses("large", special_paper, four, "majority")
        self.refuses("large", special_paper, dots(4), "majority")
        self.malformed(special_paper, four, "constant")
        rows = tuple(itertools.product(range(3), repeat=3))
        self.assertEqual(special_paper((3, ((3, rows[:15]),)), "majority")[0] in ("none", "operation"), True)
        self.refuses("large", special_paper, (3, ((3, rows[:16]),)), "majority")


def instances(many):
    """Instances of templates with two points, many of them in classes."""
    for seed in range(many):
        rng = random.Random(seed)
        told = brute.random_kind(rng, (1, 2, 2, 3), 2)
        word = rng.choice(list(CLASSES))
        B = closed(brute.structure(rng, told, 2, rng.choice((2, 3, 5))), word)
        yield rng, brute.structure(rng, told, rng.randint(0, 6), 8), B


def closed(B, word):
    """The template with the rows that the operation of the class asks for."""
    k, f = CLASSES[word]
    made = []
    for arity, rows in B[1]:
        rows = set(rows)
        while True:
            more = {tuple(f[sum(row[p] << (k - 1 - j) for j, row in enumerate(choice))] for p in range(arity))
                    for choice in itertools.product(sorted(rows), repeat=k)} - rows
            if not more:
                break
            rows |= more
        made.append((arity, tuple(sorted(rows))))
    return (2, tuple(made))


class Classes(Case):
    def test_by_chance(self):
        seen = set()
        for _, A, B in instances(400):
            maps = plain_maps(A, B)
            for word in CLASSES:
                if not class_is_held(B, word):
                    self.refuses("class", class_paper, A, B, word)
                    continue
                paper = class_paper(A, B, word)
                self.assertTrue(class_holds(A, B, word, paper), (A, B, word, paper))
                self.assertIs(paper[0] == "map", bool(maps))
                if word in ("zero", "one"):
                    self.assertIn(paper[0], ("map", "empty"))
                seen.add((word, paper[0]))
                if maps and word == "least":
                    self.assertEqual(paper[1], tuple(min(f[x] for f in maps) for x in range(A[0])))
                if maps and word == "greatest":
                    self.assertEqual(paper[1], tuple(max(f[x] for f in maps) for x in range(A[0])))
        for word, kind in (("zero", "empty"), ("one", "empty"), ("least", "raised"), ("greatest", "raised"), ("most", "round"),
                           ("odd", "sum"), ("least", "empty"), ("greatest", "empty"), ("most", "empty"), ("odd", "empty")):
            self.assertIn((word, kind), seen)
            self.assertIn((word, "map"), seen)

    def test_greatest(self):
        # Forty points: a long way of raised values, a long round, a sum of all equations.
        chain = (40, ((1, ((0,),)), (2, tuple((k, k + 1) for k in range(39))), (1, ((39,),))))
        horn = (2, ((1, ((1,),)), (2, ((0, 0), (0, 1), (1, 1))), (1, ((0,),))))
        paper = class_paper(chain, horn, "least")
        self.assertTrue(class_holds(chain, horn, "least", paper))
        self.assertEqual((paper[0], len(paper[1])), ("raised", 41))
        for word, kind in (("greatest", "raised"), ("most", "round")):
            paper = class_paper(chain, horn, word)
            self.assertTrue(class_holds(chain, horn, word, paper))
            self.assertEqual(paper[0], kind)
        odd = ring(39)
        paper = class_paper(odd, UNLIKE, "odd")
        self.assertTrue(class_holds(odd, UNLIKE, "odd", paper))
        self.assertEqual((paper[0], len(paper[1])), ("sum", 39))
        self.assertTrue(class_holds(odd, UNLIKE, "most", class_paper(odd, UNLIKE, "most")))
        self.assertEqual(class_paper(ring(40), UNLIKE, "odd")[0], "map")

    def test_rounds(self):
        # Points before the one of the round whose values are told, but not against each other.
        for forced in (0, 1):
            B = (2, ((1, ((forced,),)), (2, ((0, 1), (1, 0)))))
            A = (4, ((1, ((0,),)), (2, ((1, 2), (1, 3), (2, 3)))))
            paper = class_paper(A, B, "most")
            self.assertTrue(class_holds(A, B, "most", paper))
            self.assertEqual(paper[0], "round")
            self.assertTrue(class_holds(A, B, "odd", class_paper(A, B, "odd")))

    def test_errors(self):
        self.malformed_pairs(class_paper, NO_STRUCTURES, ORDER, "least")
        self.malformed(class_paper, dots(2), dots(0), "least")
        self.malformed(class_paper, dots(2), dots(2, 1), "least")
        for word in ("majority", "", None, 1, ("least",), True, "Least"):
            self.malformed(class_paper, dots(60), ORDER, word)
        self.assertEqual(class_paper(dots(40), ORDER, "least")[0], "map")
        self.refuses("large", class_paper, dots(41), ORDER, "least")
        self.refuses("large", class_paper, dots(41), UNLIKE, "least")
        self.refuses("class", class_paper, dots(40), UNLIKE, "least")
        for n in (1, 3):
            self.refuses("class", class_paper, dots(1), dots(n), "least")


class Plain(unittest.TestCase):
    def test_plain(self):
        self.assertTrue(is_operation_of((0, 1), ORDER, 1) and not is_operation_of((1, 0), ORDER, 1))
        self.assertTrue(breaks((0, 0, 0, 0), ORDER, ((0, 1), (1, 0))))


if __name__ == "__main__":
    unittest.main()
