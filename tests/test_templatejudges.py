"""Judges of papers of templates: points 16.1 and 16.14 to 16.17."""

import itertools
import unittest

import brute
from brute import WRONG, full_graph, ring
from cases import Case
from judged import spoilt
from judged_templates import CLASSES, class_holds, class_is_held, decided_holds, defined_holds, special_holds
from plain import plain_list_structure, plain_operations
from probeweb.refutations import case_refutation
from probeweb.templatejudges import takes_class, takes_decided, takes_defined, takes_special
from probeweb.templatepapers import class_paper, decided_paper, defined_paper, special_paper
from probeweb.templates import list_structure
from test_templatepapers import ORDER, UNLIKE, WORDS, closed, definable, dots, instances, tables, templates


class Judged(Case):
    def held(self, takes, holds, told, papers, rng, many):
        """The judge answers as the plain one; the first words of the papers that it takes come back."""
        tried = list(papers) + list(WRONG)
        for paper in papers:
            tried += [spoilt(rng, paper) for _ in range(many)] + [list(paper), paper + (0,), paper[:-1], paper[::-1]]
        taken = set()
        for paper in tried:
            right = holds(*told, paper)
            self.assertIs(takes(*told, paper), right, (told, paper))
            if right:
                taken.add(paper[0])
        return taken


class Defined(Judged):
    def test_by_chance(self):
        for rng, B in templates(80, (1, 2, 2, 3)):
            rows = tables(rng, B[0], 3 if B[0] < 3 else 1)
            right = definable(B, rows)
            paper = defined_paper(B, rows)
            self.assertTrue(takes_defined(B, rows, paper))
            papers = [paper, ("formula",), ("formula", ()), ("operation", (0,) * B[0] ** len(rows)), ("operation", ())]
            papers += [("operation", rng.choice(plain_operations(B, len(rows)))) for _ in range(3)]
            taken = self.held(lambda *told: takes_defined(B, rows, told[-1]), lambda *told: defined_holds(B, rows, right, told[-1]),
                              (B, rows), papers, rng, 15)
            self.assertEqual(taken, {paper[0]})

    def test_known(self):
        rows = ((0, 1), (1, 0))
        self.assertTrue(takes_defined(ORDER, rows, ("operation", (0, 0, 0, 0))))
        # No operation of the template; one that keeps the table; of other numbers of arguments; "formula" here.
        for f in ((0, 1, 0, 0), (0, 0, 1, 1), (0, 0), (0,) * 8, (0,), (0, 0, 0, 2), (False,) * 4, [0] * 4, None, 0):
            self.assertFalse(takes_defined(ORDER, rows, ("operation", f)))
        self.assertFalse(takes_defined(ORDER, rows, ("formula",)))
        equal = ((0, 0), (1, 1))
        self.assertTrue(takes_defined(ORDER, equal, ("formula",)))
        for paper in (("formula", ()), ["formula"], "formula", ("formulas",), (), ("operation",), ("operation", (0, 0, 0, 0))):
            self.assertFalse(takes_defined(ORDER, equal, paper))


class Decided(Judged):
    def test_by_chance(self):
        for rng, B in templates(60, (1, 2, 3)):
            paper = decided_paper(B)
            self.assertTrue(takes_decided(B, paper))
            U = plain_list_structure(B)
            papers = [paper, ("back", tuple(rng.randrange(B[0]) for _ in range(U[0]))), ("back", (0,) * U[0]), ("stuck", ())]
            taken = self.held(takes_decided, decided_holds, (B,), papers, rng, 25)
            self.assertEqual(taken, {paper[0]})

    def test_known(self):
        self.assertTrue(takes_decided(ORDER, ("back", (0, 0, 0))))
        self.assertTrue(takes_decided(ORDER, ("back", (0, 1, 0))))
        for f in ((0, 1, 2), (1, 0, 0), (0, 0), (0, 0, 0, 0), (False,) * 3, [0, 0, 0]):
            self.assertFalse(takes_decided(ORDER, ("back", f)))
        paper = decided_paper(UNLIKE)
        self.assertFalse(takes_decided(ORDER, paper))
        self.assertFalse(takes_decided(UNLIKE, ("stuck", paper[1][:-1])))
        self.assertFalse(takes_decided(UNLIKE, ("refuted", paper[1])))
        self.assertFalse(takes_decided(UNLIKE, ("stuck", case_refutation(full_graph(3), UNLIKE))))
        self.assertTrue(takes_decided((1, ()), ("back", (0,))))
        # Somewhat beyond three points the judge still answers.
        four = (4, ORDER[1])
        self.assertTrue(takes_decided(four, ("back", (0,) * 15)))
        colours = full_graph(4)
        self.assertFalse(takes_decided(colours, ("back", (0,) * 15)))
        self.assertEqual(list_structure(colours)[0], 15)


class Special(Judged):
    def test_by_chance(self):
        for rng, B in templates(60, (1, 2, 3), most=5):
            for word in WORDS:
                paper = special_paper(B, word)
                self.assertTrue(takes_special(B, word, paper))
                papers = [paper] + [special_paper(B, other) for other in WORDS if other != word]
                papers.append(("operation", tuple(rng.randrange(B[0]) for _ in range(B[0] ** 3))))
                taken = self.held(takes_special, special_holds, (B, word), papers, rng, 8)
                self.assertEqual(taken, {paper[0]})

    def test_known(self):
        self.assertTrue(takes_special(ORDER, "majority", ("operation", (0, 0, 0, 1, 0, 1, 1, 1))))
        # The operation of another kind, one that is none of the template, and others.
        for f in ((0, 1, 1, 0, 1, 0, 0, 1), (0, 0, 0, 1), (0,) * 8, [0, 0, 0, 1, 0, 1, 1, 1], (False, 0, 0, 1, 0, 1, 1, 1)):
            self.assertFalse(takes_special(ORDER, "majority", ("operation", f)))
        self.assertFalse(takes_special(ORDER, "minority", ("operation", (0, 1, 1, 0, 1, 0, 0, 1))))
        self.assertTrue(takes_special(UNLIKE, "minority", ("operation", (0, 1, 1, 0, 1, 0, 0, 1))))
        self.assertTrue(takes_special(UNLIKE, "maltsev", ("operation", (0, 1, 1, 0, 1, 0, 0, 1))))
        _, rows = special_paper(ORDER, "maltsev")
        self.assertTrue(takes_special(ORDER, "maltsev", ("none", rows)))
        self.assertFalse(takes_special(ORDER, "majority", ("none", rows)))
        self.assertFalse(takes_special(ORDER, "maltsev", ("refuted", rows)))
        # Refutations of structures without the new tables, and with them in another order.
        less = tuple((nogood, reason[:1] + (reason[1] - 1,) + reason[2:] if reason[0] == "fact" else reason) for nogood, reason in rows)
        turned = tuple((nogood, reason[:1] + (3 - reason[1],) + reason[2:] if reason[0] == "fact" and reason[1] > 0 else reason)
                       for nogood, reason in rows)
        for told in (less, turned, rows[:-1], rows[::-1], ()):
            self.assertFalse(takes_special(ORDER, "maltsev", ("none", told)))
        # Somewhat beyond three tables the judge still answers.
        four = (3, ((2, ((0, 0), (1, 1), (2, 2))),) * 4)
        self.assertFalse(takes_special(four, "majority", ("none", rows)))
        self.assertFalse(takes_special(four, "majority", ("operation", (0,) * 27)))


class Great(Judged):
    """Templates for which papers are refused, and judged all the same."""

    def test_special(self):
        every = tuple(itertools.product(range(3), repeat=3))
        for rows in (every, every[:16]):
            B = (3, ((3, rows),) * 3)
            self.refuses("large", special_paper, B, "majority")
            for word in WORDS:
                for f in (tuple(x if x in (y, z) else y if y == z else z for x, y, z in every),
                          tuple(x if y == z else z if x == y else y for x, y, z in every), (0,) * 27):
                    paper = ("operation", f)
                    self.assertIs(takes_special(B, word, paper), special_holds(B, word, paper))
                self.assertFalse(takes_special(B, word, ("none", (((), ("point", 0, (0, 0, 0))),))))
        self.assertTrue(takes_special((3, ((3, every),) * 3), "majority", ("operation", tuple(
            x if x in (y, z) else y if y == z else 0 for x, y, z in every))))
        # A refutation of a great power: all rows of three and the order of the points have no operation of the kind.
        B = (3, ((3, every), (2, tuple(row for row in itertools.product(range(3), repeat=2) if row[0] <= row[1]))))
        self.refuses("large", special_paper, B, "maltsev")
        small = (3, ((3, ()), B[1][1]))
        rows = special_paper(small, "maltsev")[1]
        self.assertTrue(takes_special(B, "maltsev", ("none", rows)))
        self.assertFalse(takes_special(B, "majority", ("none", rows)))
        self.assertFalse(takes_special(dots(4), "majority", ("operation", (0,) * 64)))

    def test_defined(self):
        every = tuple(itertools.product((0, 1), repeat=3))
        B = (2, ((3, every),))
        self.refuses("large", defined_paper, B, every[:5])
        for told in (any, all, lambda row: sum(row) % 2, lambda row: row[2]):
            paper = ("operation", tuple(int(told(row)) for row in itertools.product((0, 1), repeat=5)))
            self.assertIs(takes_defined(B, every[:5], paper), defined_holds(B, every[:5], False, paper))
        self.assertFalse(takes_defined(B, every[:5], ("formula",)))
        self.assertTrue(takes_defined((2, ((3, every), (1, ((0,),)), (1, ((1,),)))), ((0, 0), (0, 1), (1, 0), (1, 1)), ("formula",)))
        self.assertFalse(takes_defined(dots(8), ((0,), (1,)), ("operation", (0,) * 64)))
        self.assertFalse(takes_defined(dots(8), ((0,), (1,)), ("formula",)))

    def test_decided(self):
        five = (5, ((3, tuple(itertools.product(range(5), repeat=3))),))
        self.refuses("large", decided_paper, five)
        self.assertTrue(takes_decided(five, ("back", (3,) * 31)))
        self.assertFalse(takes_decided(five, ("back", (5,) * 31)))
        self.assertFalse(takes_decided(dots(6), ("back", (0,) * 63)))


class Classes(Judged):
    def test_by_chance(self):
        seen = set()
        for rng, A, B in instances(150):
            for word in CLASSES:
                if not class_is_held(B, word):
                    # Nothing is taken where the class does not hold.
                    f = tuple(rng.randrange(2) for _ in range(A[0]))
                    for paper in (("map", f), ("map", ()), ("empty", 0), ("raised", ()), ("round", (), ()), ("sum", ())):
                        self.assertIs(takes_class(A, B, word, paper), False)
                    continue
                paper = class_paper(A, B, word)
                self.assertTrue(takes_class(A, B, word, paper))
                papers = [paper, ("map", (0,) * A[0]), ("map", (1,) * A[0]), ("empty", 0), ("empty", 1)]
                papers += [class_paper(A, B, other) for other in CLASSES if other != word and class_is_held(B, other)]
                taken = self.held(takes_class, class_holds, (A, B, word), papers, rng, 20)
                self.assertEqual(taken == {"map"}, paper[0] == "map")
                self.assertTrue(len(taken) == 1 or "map" not in taken)
                seen.add((word, paper[0]))
        self.assertGreaterEqual(len(seen), 12)

    def test_empty(self):
        A, B = (1, ((1, ()), (1, ((0,),)), (1, ((0,),)))), (2, ((1, ()), (1, ((0,), (1,))), (1, ())))
        for word in CLASSES:
            for t, right in ((2, True), (1, False), (0, False), (3, False), (-1, False), (True, False), (None, False), ((2,), False)):
                self.assertIs(takes_class(A, B, word, ("empty", t)), right)
        # A fact of a table without rows shows itself in the other ways, too.
        self.assertTrue(takes_class(A, B, "least", ("raised", ((2, (0,)),))))
        self.assertTrue(takes_class(A, B, "odd", ("sum", ((2, (0,), (0, 1)),))))
        self.assertTrue(takes_class(A, B, "odd", ("sum", ((2, (0,), (1, 1)), (2, (0,), (1, 0))))))
        self.assertTrue(takes_class(A, B, "most", ("round", ((2, (0,), 0, 0, 0, 0),), ((2, (0,), 0, 1, 0, 1),))))

    def test_raised(self):
        B = (2, ((1, ((1,),)), (2, ((0, 0), (0, 1), (1, 1))), (1, ((0,),))))
        A = (2, ((1, ((0,),)), (2, ((0, 1),)), (1, ((1,),))))
        steps = ((0, (0,)), (1, (0, 1)), (2, (1,)))
        self.assertTrue(takes_class(A, B, "least", ("raised", steps)))
        # Steps that are no facts, a last step at which there are rows, no steps, a step left out or put in.
        for told in (steps[:2], (), steps[1:], steps[::2], ((0, (1,)),) + steps[1:], ((0, (0,)), (1, (1, 0)), (2, (1,))),
                     list(steps), ((False, (0,)),) + steps[1:], steps + steps[:1], ((0, (0,), 0),) + steps[1:], ((0, [0]),) + steps[1:],
                     ((3, (0,)),) + steps[1:], ((-3, (0,)),) + steps[1:], ((0, (False,)),) + steps[1:]):
            self.assertFalse(takes_class(A, B, "least", ("raised", told)))
        self.assertTrue(takes_class(A, B, "least", ("raised", steps[:1] + steps)))
        self.assertTrue(takes_class(A, B, "least", ("raised", (steps[1], steps[0]) + steps[1:])))
        # The other way round it begins with 1 everywhere.
        self.assertFalse(takes_class(A, B, "greatest", ("raised", steps)))
        self.assertTrue(takes_class(A, B, "greatest", ("raised", steps[::-1])))
        # A fact that has a point twice.
        loop, rows = (1, ((2, ((0, 0),)),)), closed((2, ((2, ((0, 1),)),)), "least")
        self.assertTrue(takes_class(loop, rows, "least", ("raised", ((0, (0, 0)), (0, (0, 0))))))
        self.assertFalse(takes_class(loop, rows, "least", ("raised", ((0, (0, 0)),))))

    def test_round(self):
        B = (2, ((2, ((0, 1), (1, 0))),))
        there = ((0, (0, 1), 0, 0, 1, 0), (0, (1, 2), 0, 1, 1, 1), (0, (2, 0), 0, 0, 1, 0))
        back = ((0, (0, 1), 0, 1, 1, 1), (0, (1, 2), 0, 0, 1, 0), (0, (2, 0), 0, 1, 1, 1))
        A = full_graph(3)
        self.assertTrue(takes_class(A, B, "most", ("round", there, back)))
        # Steps that do not lead on, that begin at another value, empty ways, places and values out of bounds.
        for one, two in ((back, there), (there, there), (there, ()), ((), back), ((), ()), (there[::-1], back), (there[:2], back),
                         (there, back[1:] + back[:1]), (there[1:] + there[:1], back), (list(there), back), (there, None),
                         (((0, (0, 1), 0, 0, 1, 1),) + there[1:], back), (((0, (0, 1), 2, 0, 1, 0),) + there[1:], back),
                         (((0, (0, 1), 0, 2, 1, 0),) + there[1:], back), (((0, (0, 1), 0, 0, -1, 0),) + there[1:], back),
                         (((0, (0, 1), False, 0, 1, 0),) + there[1:], back), (((0, (0, 1), 0, False, 1, 0),) + there[1:], back),
                         (((0, (0, 0), 0, 0, 1, 0),) + there[1:], back), (((1, (0, 1), 0, 0, 1, 0),) + there[1:], back),
                         ((list(there[0]),) + there[1:], back), (there, back[:2] + (list(back[2]),)), (there, (None,)),
                         ((there[0] + (0,),) + there[1:], back), ((there[0][:5],) + there[1:], back)):
            self.assertFalse(takes_class(A, B, "most", ("round", one, two)))
        self.assertTrue(takes_class(A, B, "most", ("round", there + back + there, back)))
        self.assertFalse(takes_class(A, B, "odd", ("round", there, back)))
        # A step at one place that leads from a value to itself, and back in two.
        idle = (0, (0, 1), 0, 0, 0, 1)
        self.assertTrue(takes_class(A, B, "most", ("round", (idle,) + there, back)))

    def test_sum(self):
        B, A = UNLIKE, ring(3)
        rows = tuple((0, row, (1, 1, 1)) for row in ((0, 1), (1, 2), (2, 0)))
        self.assertTrue(takes_class(A, B, "odd", ("sum", rows)))
        # A factor 2, an equation that does not hold for a row, an even sum, a point an odd number of times.
        for told in (rows[:2], rows + rows[:1], rows + rows, (), list(rows), ((0, (0, 1), (1, 1, 0)),) + rows[1:],
                     ((0, (0, 1), (1, 2, 1)),) + rows[1:], ((0, (0, 1), (1, 0, 1)),) + rows[1:], ((0, (0, 1), (1, 1)),) + rows[1:],
                     ((0, (0, 1), (True, 1, 1)),) + rows[1:], ((0, (0, 0), (1, 1, 1)),) + rows[1:], ((0, (0, 1), [1, 1, 1]),) + rows[1:],
                     ((1, (0, 1), (1, 1, 1)),) + rows[1:], ((0, (0, 1), (-1, 1, 1)),) + rows[1:], ((0, (0, 1), (1, 1, 3)),) + rows[1:]):
            self.assertFalse(takes_class(A, B, "odd", ("sum", told)))
        self.assertTrue(takes_class(A, B, "odd", ("sum", rows + rows + rows)))
        self.assertTrue(takes_class(A, B, "odd", ("sum", rows[::-1] + ((0, (0, 1), (0, 0, 0)),))))
        self.assertFalse(takes_class(A, B, "most", ("sum", rows)))
        for factors in ((2, 0, 0), (0, 2, 0), (2, 2, 0), (0, 0, 2), (0, 0), (0, 0, 0, 0), (False, 0, 0), [0, 0, 0], None):
            self.assertFalse(takes_class(A, B, "odd", ("sum", rows + ((0, (0, 1), factors),))))
        self.assertFalse(takes_class(A, B, "odd", ("sum", rows[:2] + (list(rows[2]),))))
        # Rows whose sum is 2: equal points that are told to be unlike.
        both = (2, ((2, ((0, 0), (1, 1))), (2, ((0, 1), (1, 0)))))
        pair = (2, ((2, ((0, 1),)), (2, ((0, 1),))))
        self.assertTrue(takes_class(pair, both, "odd", ("sum", ((0, (0, 1), (1, 1, 0)), (1, (0, 1), (1, 1, 1))))))
        self.assertFalse(takes_class(pair, both, "odd", ("sum", ((0, (0, 1), (1, 1, 1)), (1, (0, 1), (1, 1, 0))))))
        # A fact with a point twice: the sum has it twice.
        loop = (1, ((2, ((0, 0),)),))
        self.assertTrue(takes_class(loop, B, "odd", ("sum", ((0, (0, 0), (1, 1, 1)),))))

    def test_constants(self):
        A, B = (1, ((1, ()),)), (2, ((1, ((0,), (1,))),))
        for word in ("zero", "one"):
            self.assertTrue(takes_class(A, B, word, ("map", (0,))))
            for paper in (("raised", ((0, (0,)),)), ("sum", ()), ("round", (), ()), ("empty", 0)):
                self.assertFalse(takes_class(A, B, word, paper))

    def test_templates(self):
        # Templates without two points, and those for which the class does not hold.
        self.assertFalse(takes_class(dots(1), dots(3), "least", ("map", (0,))))
        self.assertFalse(takes_class(dots(1), dots(1), "least", ("map", (0,))))
        self.assertFalse(takes_class(ring(4), UNLIKE, "least", ("map", (0, 1, 0, 1))))
        self.assertTrue(takes_class(ring(4), UNLIKE, "most", ("map", (0, 1, 0, 1))))
        self.assertTrue(takes_class(ring(4), UNLIKE, "odd", ("map", (0, 1, 0, 1))))
        self.assertEqual(brute.hom(ring(3), UNLIKE), 0)


if __name__ == "__main__":
    unittest.main()
