"""Consoles: point 17.4, and the examples of chapter 17."""

import contextlib
import io
import unittest

from brute import full_graph, graph, ring
from cases import Case
from probeweb.console import Console
from probeweb.log import first_wrong, read_log, write_log
from probeweb.replies import Reply, reply_to


class Consoles(Case):
    def test_definitions(self):
        console = Console()
        self.assertEqual((len(console), list(console), console.names(), console.log()), (0, [], {}, ""))
        self.assertEqual(console.enter("graph a = 2 0,1").kind, "structure")
        self.assertEqual(console.names(), {"a": full_graph(2)})
        # Again, with an error, over itself, and lines that define nothing.
        console.enter("graph a = 3 0,1 1,2 0,2")
        self.assertEqual(console.names(), {"a": full_graph(3)})
        for line in ("graph a = 3 0,3", "power a a 5", "part a a 3", "beside a a b", "more a a = 1 3", "show a", "map a a", "", "# graph b = 1"):
            console.enter(line)
            self.assertEqual(console.names(), {"a": full_graph(3)})
        console.enter("part a a 0 1")
        console.enter("beside b a a")
        self.assertEqual(console.names(), {"a": full_graph(2), "b": graph(4, [(0, 1), (2, 3)])})
        self.assertEqual(list(console.names()), ["a", "b"])
        for line in ("table c = 1 1 0", "more d c = 1", "crossed e a a", "power f a 2", "folded g b 0 1 0 1", "graph h = 0"):
            console.enter(line)
        self.assertEqual(sorted(console.names()), list("abcdefgh"))

    def test_entries(self):
        console = Console()
        lines = ["graph a = 2 0,1", "show a", "show b", "what", "", "count a a", "map a a"]
        replies = [console.enter(line) for line in lines]
        self.assertEqual(len(console), 7)
        self.assertEqual(list(console), list(zip(lines, replies)))
        self.assertEqual([entry for entry in console], list(console))
        self.assertTrue(all(isinstance(entry, tuple) and isinstance(entry[1], Reply) for entry in console))
        self.assertEqual([reply.kind for reply in replies], ["structure", "structure", "error", "error", "done", "number", "map"])
        self.assertEqual(console.log(), write_log(list(console)))
        self.assertEqual(read_log(console.log()), list(console))
        self.assertEqual(first_wrong(list(console)), -1)
        for line, reply in console:
            self.assertIn((line, reply), list(console))

    def test_new_each_time(self):
        console = Console()
        console.enter("graph a = 2 0,1")
        names = console.names()
        names["b"] = ring(3)
        del names["a"]
        self.assertEqual(console.names(), {"a": full_graph(2)})
        self.assertIsNot(console.names(), console.names())
        entries = list(console)
        entries.append(None)
        self.assertEqual(len(console), 1)
        # Two consoles have nothing in common.
        other = Console()
        other.enter("graph b = 1")
        self.assertEqual((console.names(), len(other)), ({"a": full_graph(2)}, 1))
        self.assertEqual(reply_to(console.names(), "show b").text, "refused name")

    def test_bounds(self):
        for most in (0, 1, 2, 5):
            console = Console(most=most)
            for k in range(most):
                self.assertEqual(console.enter(f"graph a = {k}").kind, "structure")
            before = (list(console), console.names(), console.log())
            for line in ("graph b = 1", "", "what", "graph a = 9"):
                self.refuses("lines", console.enter, line)
            self.assertEqual((list(console), console.names(), console.log()), before)
        console = Console()
        for k in range(300):
            console.enter(["", "what", "graph a = 1"][k % 3])
        self.refuses("lines", console.enter, "")
        self.assertEqual((len(console), len(list(console))), (300, 300))
        with self.assertRaises(TypeError):
            Console(5)

    def test_examples(self):
        console = Console()
        told = io.StringIO()
        with contextlib.redirect_stdout(told):
            for line in ["graph ring = 5 0,1 1,2 2,3 3,4 0,4", "graph three = 3 0,1 0,2 1,2", "count ring three", "map ring three"]:
                reply = console.enter(line)
                print(reply.kind, "|", reply.text, "|", reply.data)
        self.assertEqual(told.getvalue().split("\n"), [
            "structure | 5 | 2: 0,1 0,4 1,0 1,2 2,1 2,3 3,2 3,4 4,0 4,3 | ()", "structure | 3 | 2: 0,1 0,2 1,0 1,2 2,0 2,1 | ()",
            "number | 30 | ()", "map | yes | ('map', (0, 1, 0, 1, 2))", ""])
        self.assertEqual([console.enter(line).text for line in ["layers ring three", "along ring three", "width ring", "show nought", "core ring"]],
                         ["30", "30", "2", "refused name", "0 1 2 3 4"])
        self.assertEqual(first_wrong(read_log(console.log())), -1)


if __name__ == "__main__":
    unittest.main()
