"""Replies to lines, and right entries: points 17.2, 17.3 and 17.5."""

import itertools
import random
import unittest

from brute import WRONG, directed_path, full_graph, graph, plain_maps, ring
from judged import (
    colours_holds, cycles_holds, lists_holds, pairs_holds, paths_holds, plain_restricted, sameness_holds, search_holds,
    spoilt, strategy_holds, words_holds)
from probeweb.bagpapers import core_paper, width_paper, within_paper
from probeweb.cuttings import crowded_cutting
from probeweb.probepapers import colours_paper, even_paper, lists_paper, pairs_paper, strategy_paper
from probeweb.replies import Reply, defined_by, is_right, reply_to
from probeweb.searchpapers import (
    choice_paper, cutting_paper, cycles_paper, numbers_paper, paths_paper, sameness_paper, search_paper, words_paper)
from probeweb.structures import power_structure
from probeweb.templatepapers import class_paper, decided_paper, defined_paper, special_paper

EDGE, TRIANGLE, HEXAGON = full_graph(2), full_graph(3), ring(6)
TRIANGLES = graph(6, [(0, 1), (1, 2), (0, 2), (3, 4), (4, 5), (3, 5)])
ORDER = (2, ((2, ((0, 0), (0, 1), (1, 1))),))
DOTS = (60, ((2, ()),))
NAMES = {
    "edge": EDGE, "three": TRIANGLE, "five": ring(5), "hexagon": HEXAGON, "twothree": TRIANGLES, "order": ORDER,
    "square": ring(4), "path": directed_path(3), "short": directed_path(2), "empty": (0, ((2, ()),)), "none": (0, ()),
    "dots": DOTS, "ones": (2, ((1, ((0,),)),)), "rows": (2, ((3, ((0, 0, 1), (1, 1, 1))),)), "many": (2, ((2, ()),) * 6),
    "loop": (1, ((2, ((0, 0),)),)), "nine": (9, ((2, ()),)), "turned": ring(4), "graph": EDGE}


def text_of(A):
    """The text of a structure, from point 17.3."""
    text = str(A[0])
    for arity, rows in A[1]:
        text += f" | {arity}:" + "".join(" " + ",".join(map(str, row)) for row in rows)
    return text


def fields(reply):
    return reply.kind, reply.text, reply.data


class Replies(unittest.TestCase):
    def told(self, line, names=None):
        names = NAMES if names is None else names
        before = dict(names)
        reply = reply_to(names, line)
        self.assertIsInstance(reply, Reply)
        self.assertEqual(names, before)
        # What is told again is equal, and is a right entry.
        self.assertTrue(reply == reply_to(names, line))
        self.assertIs(is_right(names, (line, reply)), True)
        return fields(reply)

    def error(self, text, line, names=None):
        self.assertEqual(self.told(line, names), ("error", text, ()), line)
        self.assertIsNone(defined_by(NAMES if names is None else names, line))


class Structures(Replies):
    def defines(self, line, name, A):
        self.assertEqual(self.told(line), ("structure", text_of(A), ()), line)
        self.assertEqual(defined_by(NAMES, line), (name, A))

    def test_definitions(self):
        self.defines("graph x = 3 0,1 1,2 2,0 2,1", "x", TRIANGLE)
        self.defines("graph x = 0", "x", (0, ((2, ()),)))
        self.defines("table x = 2 3 1,1,1 0,0,1 1,1,1", "x", NAMES["rows"])
        self.defines("table x = 60 1 59", "x", (60, ((1, ((59,),)),)))
        self.defines("more x ones = 2 1,0 0,0 1,0", "x", (2, ((1, ((0,),)), (2, ((0, 0), (1, 0))))))
        self.defines("more x none = 3", "x", (0, ((3, ()),)))
        self.defines("more x none = 1", "x", (0, ((1, ()),)))
        self.defines("beside x edge edge", "x", graph(4, [(0, 1), (2, 3)]))
        self.defines("crossed x edge edge", "x", graph(4, [(0, 3), (1, 2)]))
        self.defines("power x edge 3", "x", power_structure(EDGE, 3))
        self.defines("power x edge 0", "x", (1, ((2, ((0, 0),)),)))
        self.defines("folded x square 0 1 0 1", "x", EDGE)
        self.defines("folded x square 7 3 7 3", "x", EDGE)
        self.defines("folded x none", "x", (0, ()))
        self.defines("part x square 0 1", "x", EDGE)
        self.defines("part x square", "x", (0, ((2, ()),)))
        # A name that the line uses and defines, and names that are words of commands.
        self.defines("beside edge edge edge", "edge", graph(4, [(0, 1), (2, 3)]))
        self.defines("part square square 0 1", "square", EDGE)
        self.defines("power graph graph 1", "graph", EDGE)

    def test_show(self):
        for name, A in NAMES.items():
            self.assertEqual(self.told(f"show {name}"), ("structure", text_of(A), ()))
            self.assertIsNone(defined_by(NAMES, f"show {name}"))
        self.assertEqual(self.told("show empty")[1], "0 | 2:")
        self.assertEqual(self.told("show none")[1], "0")
        self.assertEqual(self.told("show rows")[1], "2 | 3: 0,0,1 1,1,1")

    def test_empty_lines(self):
        for line in ("", "   ", "# show edge"):
            self.assertEqual(self.told(line), ("done", "", ()))
            self.assertIsNone(defined_by(NAMES, line))

    def test_errors(self):
        for line in ("what", " # a", "show", "show A", "graph x = 61", "x" * 2001, "power x edge 01", None, 5, True, ("show edge",),
                     [], b"show edge", "show edge\n"):
            self.error("text", line)
        # No definition goes ahead of what the functions raise.
        for line in ("show x", "beside x edge y", "beside x y edge", "beside x x edge", "power x y -1", "more x y = 1 99",
                     "map edge y", "within y 0", "special y majority", "class edge y least", "class y edge least",
                     "defined y 0,0", "folded y y 0", "core y", "special y what"):
            self.error("refused name", line)
            self.error("refused name", line, {})
        self.error("refused name", "show edge", {})
        for line in ("beside x edge ones", "crossed x rows edge", "power x edge -1", "folded x edge 0", "folded x edge 0 -1",
                     "folded x edge 0 1 2", "part x edge 2", "part x edge 1 0", "part x edge 0 0", "part x edge -1",
                     "more x many = 2 0,0", "more x ones = 1 2", "more x ones = 2 0,2", "more x none = 1 0", "power x dots -5",
                     "beside x dots ones", "more x many = 2 9,9"):
            self.error("malformed", line)
        for line in ("beside x dots loop", "beside x dots dots", "crossed x dots edge", "power x edge 6", "power x three 999999999999"):
            self.error("refused large", line)
        self.assertEqual(self.told("power x loop 999999999999")[1], "1 | 2: 0,0")


class Numbers(Replies):
    def number(self, line, told):
        self.assertEqual(self.told(line), ("number", str(told), ()), line)
        self.assertIsNone(defined_by(NAMES, line))

    def test_maps(self):
        for one, two in itertools.product(("edge", "three", "five", "path", "short", "order", "loop", "empty", "square"), repeat=2):
            A, B = NAMES[one], NAMES[two]
            maps = plain_maps(A, B)
            self.number(f"count {one} {two}", len(maps))
            self.number(f"inject {one} {two}", sum(len(set(f)) == len(f) for f in maps))
            self.number(f"onto {one} {two}", sum(len(set(f)) == B[0] for f in maps))
            self.number(f"along {one} {two}", len(maps))
            if A[0] and B[0]:
                self.number(f"layers {one} {two}", len(maps))
            else:
                self.error("malformed", f"layers {one} {two}")
        self.number("count dots three", 3 ** 60)
        for word in ("count", "inject", "onto", "along", "layers"):
            self.error("malformed", f"{word} edge ones")
            # Malformed goes ahead of Refused.
            self.error("malformed", f"{word} dots rows")
        self.error("refused large", "along dots edge")
        self.error("refused large", "inject dots edge")
        self.error("refused large", "onto edge nine")
        self.error("malformed", "layers dots edge")
        self.error("malformed", "layers edge nine")

    def test_refused_counts(self):
        names = {"wide": full_graph(12), "big": full_graph(9)}
        self.error("refused large", "count wide big", names)
        self.error("refused large", "along wide big", names)
        star = {"star": graph(7, [(6, x) for x in range(6)]), "eight": (8, ((2, ()),))}
        self.error("refused large", "layers star eight", star)

    def test_graphs(self):
        for name, row, forests in (("three", (0, 2, -3, 1), 3), ("square", (0, -3, 6, -4, 1), 4), ("empty", (1,), 1), ("edge", (0, -1, 1), 1)):
            text = " ".join(map(str, row))
            self.assertEqual(self.told(f"row {name}"), ("row", text, ()))
            self.number(f"forests {name}", forests)
            for q in (-2, -1, 0, 1, 2, 3, 10, 999999999999):
                self.number(f"colour {name} {q}", sum(c * q ** k for k, c in enumerate(row)))
        self.number("flows three 3", 2)
        self.number("flows square 2", 1)
        for line in ("flows three 0", "flows three 6", "flows three -1", "flows order 2", "colour order 2", "row loop", "forests short",
                     "row ones", "colour rows 1"):
            self.error("malformed", line)
        for line in ("row dots", "colour dots 2", "forests dots", "flows dots 2"):
            self.error("refused large", line)

    def test_spectrum(self):
        self.assertEqual(self.told("spectrum three"), ("row", "1 0 -3 -2", ()))
        self.assertEqual(self.told("spectrum empty"), ("row", "1", ()))
        self.error("malformed", "spectrum ones")
        self.error("refused large", "spectrum dots")


TWO = {"map": search_paper, "lists": lists_paper, "strategy": strategy_paper, "colours": colours_paper, "even": even_paper,
       "pairs": pairs_paper, "words": words_paper, "paths": paths_paper, "cycles": cycles_paper, "same": sameness_paper,
       "profile": numbers_paper}
YES = ("map", "lists", "strategy", "classes", "even", "pairs", "within", "matrix", "alike", "turned")


class Papers(Replies):
    def test_two(self):
        seen = {}
        small = ("edge", "three", "square", "turned", "path", "short", "order", "loop", "empty")
        for word, told in TWO.items():
            for one, two in itertools.product(small, repeat=2):
                paper = told(NAMES[one], NAMES[two])
                text = "yes" if paper[0] in YES else "no"
                self.assertEqual(self.told(f"{word} {one} {two}"), (word, text, paper))
                seen.setdefault(word, set()).add(text)
            self.error("malformed", f"{word} edge ones")
            self.error("malformed", f"{word} dots ones")
            self.error("refused large" if word != "lists" else "refused large", f"{word} dots dots")
        self.assertEqual(set(map(len, seen.values())), {2})
        self.assertEqual(self.told("colours hexagon twothree")[1], "yes")
        self.assertEqual(self.told("pairs hexagon twothree")[1], "no")
        self.error("malformed", "words rows rows")
        self.error("malformed", "cycles ones ones")

    def test_others(self):
        for line, paper, text in (
                ("core square", core_paper(NAMES["square"]), "0 1"), ("core five", core_paper(NAMES["five"]), "0 1 2 3 4"),
                ("core empty", core_paper(NAMES["empty"]), ""), ("width three", width_paper(TRIANGLE), "2"),
                ("width empty", width_paper(NAMES["empty"]), "-1"), ("within three 1", within_paper(TRIANGLE, 1), "no"),
                ("within three 2", within_paper(TRIANGLE, 2), "yes"), ("within empty -2", within_paper(NAMES["empty"], -2), "no"),
                ("decided order", decided_paper(ORDER), "yes"), ("decided edge", decided_paper(EDGE), "no"),
                ("special order majority", special_paper(ORDER, "majority"), "yes"),
                ("special order maltsev", special_paper(ORDER, "maltsev"), "no"),
                ("class path order least", class_paper(NAMES["path"], ORDER, "least"), "yes"),
                ("class three edge most", class_paper(TRIANGLE, EDGE, "most"), "no"),
                ("class three edge odd", class_paper(TRIANGLE, EDGE, "odd"), "no"),
                ("defined order 0,0 1,1", defined_paper(ORDER, ((0, 0), (1, 1))), "yes"),
                ("defined order 0,1 1,0", defined_paper(ORDER, ((0, 1), (1, 0))), "no"),
                ("choice 3 0,1 0,1 a", choice_paper(((0, 1), (0, 1), (0, 1, 2)), 3), "yes"),
                ("choice 3 0,1 0,1 1,0,1", choice_paper(((0, 1), (0, 1), (0, 1)), 3), "no"), ("choice 3 -", ("hall", (0,)), "no"),
                ("choice 0", ("choice", ()), "yes")):
            self.assertEqual(self.told(line), (line.split()[0], text, paper), line)
            self.assertIsNone(defined_by(NAMES, line))

    def test_errors(self):
        for line in ("special order constant", "special order what", "special empty majority", "class path order what",
                     "class ones order least", "class path empty least", "defined order 1,0 0,1", "defined order 0,2", "defined order 0 0",
                     "defined order 0,0 0", "decided empty", "defined order 0 1 0 1 0 1", "choice 3" + " 0" * 61):
            self.error("malformed", line)
        for line in ("core nine", "width dots", "within dots 0", "decided nine", "special nine majority", "special many majority",
                     "class dots order least", "defined nine 0 1"):
            self.error("refused large", line)
        self.error("refused class", "class path edge least")
        self.error("refused class", "class path three most")
        # Two errors at once: what is malformed goes ahead.
        self.error("malformed", "class dots order what")
        self.error("malformed", "special many what")


class Fields(unittest.TestCase):
    def test_fields(self):
        self.assertEqual(fields(Reply("done")), ("done", "", ()))
        self.assertEqual(fields(Reply("map", "yes", ("map", (0,)))), ("map", "yes", ("map", (0,))))
        self.assertEqual(fields(Reply("a", data=(1,), text="b")), ("a", "b", (1,)))
        self.assertEqual(fields(Reply(kind="a")), ("a", "", ()))

    def test_equal(self):
        one = Reply("map", "yes", ("map", (0, 1)))
        self.assertTrue(one == Reply("map", "yes", ("map", (0, 1))) and not one != Reply("map", "yes", ("map", (0, 1))))
        for other in (Reply("maps", "yes", ("map", (0, 1))), Reply("map", "no", ("map", (0, 1))), Reply("map", "yes", ("map", (0, 2))),
                      Reply("map", "yes"), Reply("map"), Reply(None, None, None), *WRONG, ("map", "yes", ("map", (0, 1)))):
            self.assertIs(one == other, False)
            self.assertIs(other == one, False)
            self.assertTrue(one != other)
        self.assertTrue(Reply([], {}, None) == Reply([], {}, None))
        self.assertFalse(Reply("a", "", []) == Reply("a", "", ()))


# For each word a line with a paper, and further papers that the judge takes.
FREE = {
    "map three edge": [cutting_paper(TRIANGLE, EDGE)], "map square edge": [("map", (1, 0, 1, 0))],
    "lists square edge": [("lists", ((0,), (1,), (0,), (1,)))], "strategy square edge": [],
    "lists path short": [("tree", ((), ((0, 1, (0,), 1), (0, 0, (0,), 1))))],
    "strategy three edge": [("strand", (("fact", 0, (0, 1)), ("through", 0, 0), ("turn", 0), ("both", 1, 2)))],
    "colours hexagon twothree": [("classes", (4,) * 6, (4,) * 6), ("even", (((1, 6),) * 6,) * 6)],
    "even hexagon twothree": [("classes", (4,) * 6, (4,) * 6), ("even", (((1, 6),) * 6,) * 6)],
    "colours square edge": [("trees", ((),), 3)], "even square edge": [("trees", ((),), 3)],
    "pairs hexagon twothree": [("strands", (("fact", 0, (0, 1)), ("through", 0, 0), ("both", 0, 1)), 7)],
    "pairs edge edge": [("pairs", (((7, 5), (5, 7)), ((7, 5), (5, 7))))],
    "words edge edge": [("within", ((0, (0,)), (1, (1,)))), ("within", ((0, (0, 1)), (1, (0, 1))))],
    "words path short": [("word", ((0, 0), (0, 0), (0, 1)))],
    "paths edge edge": [("matrix", (((1, 1), (0, 1)), ((0, 1), (1, 1))))], "paths path short": [("word", ((0, 0), (0, 1), (0, 0)))],
    "cycles edge edge": [], "cycles edge three": [("cycle", 2), ("cycle", 3), ("cycle", 60)],
    "same hexagon twothree": [], "same edge edge": [("turned", (1, 0))], "same square path": [("numbers", (1, ((2, ()),)))],
    "profile edge edge": [("turned", (1, 0))], "profile square path": [("apart", ((((), ()), ("colours",)),))],
    "within three 2": [("within", (((0, 1, 2), (0,)), (-1, 0)))], "within three 1": [("above", ((0,), (1,), (2,)))],
    "width three": [("width", 2, (((0, 1, 2), (0,)), (-1, 0)), ((0,), (1,), (2,)))],
    "decided order": [("back", (0, 1, 1))], "decided edge": [],
    "special order majority": [("operation", (0, 0, 0, 1, 0, 1, 1, 1))], "special order maltsev": [],
    "class path order least": [("map", (0, 0, 1)), ("map", (1, 1, 1))],
    "class three edge odd": [("sum", ((0, (0, 1), (1, 1, 1)), (0, (0, 2), (1, 1, 1)), (0, (1, 2), (1, 1, 1))))],
    "defined order 0,0 1,1": [], "defined order 0,1 1,0": [("operation", (1, 1, 1, 1))],
    "choice 3 0,1 0,1 a": [("choice", (1, 0, 2))], "choice 3 0 0": [("hall", (0, 1))],
    "core square": [("core", (1, 2), (1, 0, 1, 0), core_paper(ring(4))[3])], "core three": []}
HOLDS = {"map": search_holds, "lists": lists_holds, "strategy": strategy_holds, "colours": colours_holds, "even": colours_holds,
         "pairs": pairs_holds, "words": words_holds, "paths": paths_holds, "cycles": cycles_holds, "same": sameness_holds,
         "profile": sameness_holds}


class Entries(Replies):
    def right(self, line, reply, right, names=None):
        self.assertIs(is_right(NAMES if names is None else names, (line, reply)), right, (line, fields(reply)))

    def test_papers(self):
        words = set()
        for line, papers in FREE.items():
            word = line.split()[0]
            words.add(word)
            told = reply_to(NAMES, line)
            self.assertEqual(told.kind, word)
            kind, rows = told.data[0], told.data[-1]
            # With its last row twice such a paper shows the same.
            more = [(kind, rows + rows[-1:])] if kind in ("refuted", "none", "stuck", "apart") else []
            for paper in [told.data] + papers + more:
                text = " ".join(map(str, paper[1])) if word == "core" else told.text
                self.right(line, Reply(word, text, paper), True)
                # Another text, another kind, and what is no paper.
                for other in ("yes", "no", "", "maybe", "0 1 2", "2", "1", text + " ", None, True, 5, (text,)):
                    self.right(line, Reply(word, other, paper), other == text)
                for kind in ("map", "lists", "error", "number", "", None, word + "s", (word,)):
                    self.right(line, Reply(kind, text, paper), kind == word)
                for data in (list(paper), paper + (0,), paper[:-1], (), None, (word,), (paper,), 5):
                    self.right(line, Reply(word, text, data), False)
        self.assertEqual(len(words), 19)

    def test_spoilt_papers(self):
        rng = random.Random(5)
        for line in FREE:
            word, *names = line.split()
            if word not in HOLDS:
                continue
            A, B = NAMES[names[0]], NAMES[names[1]]
            told = reply_to(NAMES, line)
            for _ in range(25):
                paper = spoilt(rng, told.data)
                right = HOLDS[word](A, B, paper)
                text = "no" if not right or paper[0] not in YES else "yes"
                self.right(line, Reply(word, text, paper), right)
                self.right(line, Reply(word, "yes" if text == "no" else "no", paper), False)

    def test_cores(self):
        # Cores of another size are none, whatever shows that they hold.
        _, points, f, bars = core_paper(ring(4))
        every = (0, 1, 2, 3)
        self.right("core square", Reply("core", "0 1", ("core", points, f, bars)), True)
        self.right("core square", Reply("core", "0 1 2 3", ("core", every, every, bars * 2)), False)
        self.right("core square", Reply("core", "0 1", ("core", points, f, bars[:1])), False)
        self.right("core square", Reply("core", "1 0", ("core", points, f, bars)), False)
        self.assertEqual(plain_restricted(ring(4), points), EDGE)

    def test_other_lines(self):
        for line in ("", "# a", "show edge", "count edge three", "row three", "spectrum three", "graph x = 2 0,1", "show nought", "what",
                     "beside x edge ones", "power x edge 9", "map nought edge", "core nine", "within dots 3", None, 5, (1, 2), []):
            reply = reply_to(NAMES, line)
            self.right(line, reply, True)
            self.right(line, Reply(*fields(reply)), True)
            kind, text, data = fields(reply)
            for other in (Reply(kind + "s", text, data), Reply(kind, text + " ", data), Reply(kind, text, (0,)), Reply(kind, text, []),
                          Reply("done"), Reply("error", "text"), Reply("error", "malformed"), Reply(None, None, None)):
                self.right(line, other, other == reply)
        # Over other definitions other replies are right.
        reply = reply_to(NAMES, "count edge three")
        self.right("count edge three", reply, False, {})
        self.right("count edge three", Reply("error", "refused name"), True, {})
        # A line that leads to an error is right with this error alone, also where a paper could be told.
        names = {"nine": full_graph(9), "eight": full_graph(8)}
        cutting = crowded_cutting(names["nine"], names["eight"])
        self.assertTrue(search_holds(names["nine"], names["eight"], ("cut", cutting)))
        self.right("map nine eight", Reply("map", "no", ("cut", cutting)), False, names)
        self.assertEqual(fields(reply_to(names, "map nine eight")), ("error", "refused large", ()))

    def test_values(self):
        reply = reply_to(NAMES, "show edge")
        for entry in WRONG + ("show edge", ["show edge", reply], ("show edge",), ("show edge", reply, 0), reply, (reply, "show edge"),
                              ("show edge", None), ("show edge", fields(reply)), ((), ()), (None, None), ("map edge edge", None),
                              ("map edge edge", fields(reply_to(NAMES, "map edge edge"))), ("core edge", "core"), ("core edge", ())):
            self.assertIs(is_right(NAMES, entry), False)
        for line in WRONG:
            self.assertIs(is_right(NAMES, (line, Reply("error", "text"))), line != "")
            self.assertIs(is_right(NAMES, (line, Reply("done"))), line == "")


if __name__ == "__main__":
    unittest.main()
