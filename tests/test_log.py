"""Plain data and logs: points 17.5 and 17.6."""

import random
import unittest

from brute import WRONG, deep
from probeweb.console import Console
from probeweb.errors import Malformed, NoText
from probeweb.log import first_wrong, read_data, read_log, write_data, write_log
from probeweb.replies import Reply, reply_to

RIGHT = (
    (0, "0"), (-5, "-5"), (10 ** 30, "1" + "0" * 30), ("a", "a"), ("abcdefghijkl", "abcdefghijkl"), ((), "()"), ((1,), "(1)"),
    ((1, "two", (3, ())), "(1 two (3 ()))"), (((),), "(())"), (((), ()), "(() ())"), (("map", (0, 1, 0)), "(map (0 1 0))"),
    (deep(60), "(" * 60 + ")" * 60))
NO_DATA = (None, True, False, [], [1], (1, [2]), (True,), (1, None), "", "abcdefghijklm", "A", "a b", "a1", "\u00e9", 1.5, b"a", {},
           deep(61), ((),) * 3 + (deep(60),), (deep(60),), Reply("a"), ("a", Reply("a")), ("",), ("abcdefghijklm",))
NO_TEXTS = (
    "", " ", "(", ")", "())", "(()", ")(", "1 2", "1  2", "(1  2)", "(1 2 )", "( 1 2)", "(1 (2 ) 3)", "() ()", "()()", "(1)2", "1()", "01",
    "-0", "+1", "--1", "-", "1-", "1.0", "0x1", "(01)", "(-0)", "A", "aB", "a1", "a_b", "abcdefghijklm", " 1", "1 ", "\t1", "1\n", "(1\n2)",
    "(1\t2)", "(1,2)", "[1]", "\u0661", "\u00b2", "(a\u00a0b)", "None", "True", "(" * 61 + ")" * 61, "'a'", "(1 2))", "((1 2)")


def random_data(rng, depth):
    way = rng.random()
    if depth == 0 or way < 0.35:
        return rng.choice((0, 1, -1, rng.randint(-10 ** 40, 10 ** 40), rng.randint(-99, 99)))
    if way < 0.6:
        return "".join(rng.choice("abcxyz") for _ in range(rng.randint(1, 12)))
    return tuple(random_data(rng, depth - 1) for _ in range(rng.randint(0, 4)))


class Data(unittest.TestCase):
    def unread(self, text):
        with self.assertRaises(NoText) as caught:
            read_data(text)
        self.assertEqual(caught.exception.at, 0)

    def test_known(self):
        for data, text in RIGHT:
            self.assertEqual(write_data(data), text)
            self.assertEqual(repr(read_data(text)), repr(data))
        for data in NO_DATA:
            with self.assertRaises(Malformed):
                write_data(data)
        for text in NO_TEXTS:
            self.unread(text)
        for value in WRONG + (b"1", ["1"], ("1",)):
            if not (isinstance(value, str) and value in ("a", "0", "all")):
                self.unread(value)

    def test_depth(self):
        for inner in (5, "five", ()):
            data = inner
            for k in range(1, 62):
                data = (data,)
                size = k + (1 if inner == () else 0)
                text = "(" * k + ("()" if inner == () else str(inner)) + ")" * k
                if size <= 60:
                    self.assertEqual((write_data(data), read_data(text)), (text, data))
                else:
                    self.unread(text)
                    with self.assertRaises(Malformed):
                        write_data(data)
        # Depth counts for each part alone.
        wide = (deep(59),) * 3
        self.assertEqual(read_data(write_data(wide)), wide)

    def test_great(self):
        for n in (10 ** 3999, -10 ** 3999, 10 ** 4000 - 1, 7 * 10 ** 2500 + 3):
            text = write_data((n,))
            self.assertEqual(read_data(text), (n,))
            self.assertEqual(len(text), len(text.strip("()-")) + (3 if n < 0 else 2))
        self.assertEqual(write_data(10 ** 3999), "1" + "0" * 3999)

    def test_by_chance(self):
        for seed in range(400):
            rng = random.Random(seed)
            data = random_data(rng, 6)
            text = write_data(data)
            self.assertEqual(repr(read_data(text)), repr(data))
            # One sign changed, left out or put in: it is read as what is written so, or not at all.
            for _ in range(10):
                k = rng.randrange(len(text))
                other = text[:k] + rng.choice(("", " ", "(", ")", "0", "-", "a", text[k] * 2)) + text[k + 1:]
                try:
                    told = read_data(other)
                except NoText:
                    continue
                self.assertEqual(write_data(told), other)


ENTRIES = [("", Reply("done")), ("# a (b", Reply("done", "  two  spaces ", ())), ("show edge", Reply("structure", "2 | 2: 0,1 1,0")),
           ("> = #", Reply("abcdefghijkl", "= # >", ((), "a", -5, (1, (2,))))), ("\r\t\u00e9", Reply("a", "\r\u2028"))]
LOG = ("> \n= done \n# ()\n> # a (b\n= done   two  spaces \n# ()\n> show edge\n= structure 2 | 2: 0,1 1,0\n# ()\n"
       "> > = #\n= abcdefghijkl = # >\n# (() a -5 (1 (2)))\n> \r\t\u00e9\n= a \r\u2028\n# ()\n")


class Logs(unittest.TestCase):
    def at(self, text):
        with self.assertRaises(NoText) as caught:
            read_log(text)
        return caught.exception.at

    def test_known(self):
        self.assertEqual(write_log(ENTRIES), LOG)
        self.assertEqual(read_log(LOG), ENTRIES)
        self.assertEqual((write_log([]), read_log("")), ("", []))
        for k in range(len(ENTRIES) + 1):
            self.assertEqual(read_log(write_log(ENTRIES[:k])), ENTRIES[:k])

    def test_unwritten(self):
        for entry in WRONG + (
                ("a",), ("a", Reply("done"), 0), ["a", Reply("done")], (Reply("done"), "a"), ("a\nb", Reply("done")), ("\n", Reply("done")),
                (None, Reply("done")), (5, Reply("done")), ("a", None), ("a", ("done", "", ())), ("a", Reply("")), ("a", Reply("Done")),
                ("a", Reply("abcdefghijklm")), ("a", Reply(None)), ("a", Reply("a b")), ("a", Reply("done", None)), ("a", Reply("done", "a\n")),
                ("a", Reply("done", 5)), ("a", Reply("done", "", [])), ("a", Reply("done", "", 5)), ("a", Reply("done", "", "a")),
                ("a", Reply("done", "", (True,))), ("a", Reply("done", "", ([],))), ("a", Reply("done", "", (deep(60),)))):
            for entries in ([entry], ENTRIES + [entry], [entry] + ENTRIES):
                with self.assertRaises(Malformed):
                    write_log(entries)
        self.assertEqual(write_log([("a", Reply("done", "", deep(60)))])[-2:], ")\n")

    def test_marks(self):
        rows = LOG.split("\n")[:-1]
        for k in range(len(rows)):
            for wrong in ("", rows[k][1:], rows[k][0] + rows[k][2:], " " + rows[k], "x" + rows[k][1:], rows[k][0]):
                told = rows[:k] + [wrong] + rows[k + 1:]
                self.assertEqual(self.at("\n".join(told) + "\n"), k, wrong)
                self.assertEqual(self.at("\n".join(told)), k)
                # The first one counts where there are more.
                if k > 0:
                    self.assertEqual(self.at("\n".join(["x"] + told[1:]) + "\n"), 0)
            # A row left out: the next one has not the form that is due, or the text ends within an entry.
            told = rows[:k] + rows[k + 1:]
            self.assertEqual(self.at("\n".join(told) + "\n"), k)
        for k, wrong in ((1, "= done"), (1, "= Done a"), (1, "=  a"), (1, "= "), (1, "= abcdefghijklm a"), (1, "= d1 a"), (2, "# "), (2, "# 5"),
                         (2, "# a"), (2, "# ( )"), (2, "# ()  "), (2, "# (01)"), (2, "# ()()"), (2, "# " + "(" * 61 + ")" * 61), (0, ">")):
            self.assertEqual(self.at("\n".join(rows[:k] + [wrong] + rows[k + 1:]) + "\n"), k, wrong)

    def test_ends(self):
        rows = LOG.split("\n")[:-1]
        for k in range(1, len(rows) + 1):
            part = "\n".join(rows[:k])
            # Without the last line feed, and within an entry.
            self.assertEqual(self.at(part), k - 1)
            if k % 3:
                self.assertEqual(self.at(part + "\n"), k)
            else:
                self.assertEqual(read_log(part + "\n"), ENTRIES[:k // 3])
                self.assertEqual(self.at(part + "\n\n"), k)
        self.assertEqual((self.at("\n"), self.at("\n\n"), self.at("x"), self.at(">"), self.at("> "), self.at("> a\n")), (0, 0, 0, 0, 0, 1))
        for value in (None, 5, b"> a", ["> a"], ("> a",), [], True):
            self.assertEqual(self.at(value), 0)


def worksheet():
    console = Console()
    for line in ("graph ring = 5 0,1 1,2 2,3 3,4 0,4", "graph three = 3 0,1 0,2 1,2", "count ring three", "map ring three", "map three ring",
                 "part edge three 0 1", "show edge", "lists three edge", "strategy three edge", "what", "", "core ring", "more both edge = 1 0",
                 "show nought", "graph edge = 4 0,1", "show edge", "same edge edge", "class edge edge least", "width three"):
        console.enter(line)
    return list(console)


class Wrong(unittest.TestCase):
    def test_right(self):
        entries = worksheet()
        self.assertEqual(first_wrong(entries), -1)
        self.assertEqual(first_wrong([]), -1)
        self.assertEqual(first_wrong(read_log(write_log(entries))), -1)
        # Other papers are right, too.
        line, told = entries[3]
        free = [(line, Reply("map", "yes", ("map", (1, 2, 1, 2, 0))))]
        self.assertNotEqual(told, free[0][1])
        self.assertEqual(first_wrong(entries[:3] + free + entries[4:]), -1)

    def test_each_place(self):
        entries = worksheet()
        for k, (line, reply) in enumerate(entries):
            for other in ((line, Reply(reply.kind, reply.text + "x", reply.data)), (line, Reply("x", reply.text, reply.data)),
                          (line, Reply(reply.kind, reply.text, reply.data + (0,))), (line, reply, 0), line, None, (line, None), [line, reply]):
                self.assertEqual(first_wrong(entries[:k] + [other] + entries[k + 1:]), k)
                self.assertEqual(first_wrong(entries[:k] + [other, None]), k)

    def test_definitions(self):
        entries = worksheet()
        # A line that defines, left out: the first line that uses the name is not right any more.
        self.assertEqual(first_wrong(entries[1:]), 1)
        self.assertEqual(first_wrong(entries[:1] + entries[2:]), 1)
        self.assertEqual(first_wrong(entries[:14] + entries[15:]), 14)
        # A name that is defined again; lines with errors define nothing.
        again = [("graph a = 1", Reply("structure", "1 | 2:")), ("graph a = 2", Reply("structure", "2 | 2:")),
                 ("graph a = 2 0,2", Reply("error", "text")), ("power a a 6", Reply("error", "refused large")),
                 ("part a a 2", Reply("error", "malformed")), ("beside a a b", Reply("error", "refused name"))]
        self.assertEqual(first_wrong(again + [("show a", Reply("structure", "2 | 2:"))]), -1)
        self.assertEqual(first_wrong(again + [("show a", Reply("structure", "1 | 2:"))]), 6)
        # Values of any form in the place of the line.
        self.assertEqual(first_wrong([(None, Reply("error", "text")), ((), Reply("error", "text")), ([], Reply("done"))]), 2)
        for value in WRONG:
            self.assertEqual(first_wrong([value]), 0)
        self.assertEqual(reply_to({}, None).text, "text")


if __name__ == "__main__":
    unittest.main()
