"""Lines of worksheets: point 17.1."""

import random
import re
import unittest

from brute import WRONG, full_graph, graph
from probeweb.errors import NoText
from probeweb.sheet import read_line

NAMES = "ab", "three", "graph", "x", "abcdefgh"
TWO = ("count", "inject", "onto", "along", "layers", "map", "lists", "strategy", "colours", "even", "pairs", "words", "paths",
       "cycles", "same", "profile")
ONE = ("show", "forests", "row", "spectrum", "core", "width", "decided")
BOUND = ("colour", "flows", "within")
# A line of each form of the table, and its command.
LINES = [
    ("graph ring = 3 0,1 1,2 2,0", ("graph", "ring", full_graph(3))),
    ("graph g = 0", ("graph", "g", (0, ((2, ()),)))),
    ("table t = 3 2 1,0 0,1 1,0", ("table", "t", (3, ((2, ((0, 1), (1, 0))),)))),
    ("table t = 3 1 2 0", ("table", "t", (3, ((1, ((0,), (2,))),)))),
    ("table t = 3 3 2,2,2", ("table", "t", (3, ((3, ((2, 2, 2),)),)))),
    ("more t a = 2 9,8 0,0 9,8", ("more", "t", "a", 2, ((0, 0), (9, 8)))),
    ("more t a = 1", ("more", "t", "a", 1, ())),
    ("beside c a b", ("beside", "c", "a", "b")), ("crossed c a a", ("crossed", "c", "a", "a")),
    ("power p a 3", ("power", "p", "a", 3)), ("power p a -3", ("power", "p", "a", -3)),
    ("folded f a 0 1 0", ("folded", "f", "a", (0, 1, 0))), ("part f a", ("part", "f", "a", ())),
    ("part f a -1 7", ("part", "f", "a", (-1, 7))),
    ("special a majority", ("special", "a", "majority")), ("special a abcdefghijkl", ("special", "a", "abcdefghijkl")),
    ("class a b least", ("class", "a", "b", "least")),
    ("defined a 1,0 0,1 1,0", ("defined", "a", ((1, 0), (0, 1), (1, 0)))), ("defined a 5", ("defined", "a", ((5,),))),
    ("defined a 1 1,2 0,0,0", ("defined", "a", ((1,), (1, 2), (0, 0, 0)))),
    ("choice 3 0,2 - a 1,1,1 2,1,0", ("choice", 3, ((0, 2), (), (0, 1, 2), (1,), (0, 1, 2)))),
    ("choice 0", ("choice", 0, ())), ("choice 0 - a", ("choice", 0, ((), ()))), ("choice 60 59", ("choice", 60, ((59,),))),
] + [(f"{word} a b", (word, "a", "b")) for word in TWO] + [(f"{word} a", (word, "a")) for word in ONE] + [
    (f"{word} a -7", (word, "a", -7)) for word in BOUND]
SPACE, TILDE = chr(32), chr(126)


def plain_integer(token, most=12):
    return re.fullmatch(r"0|-?[1-9][0-9]*", token) is not None and len(token.lstrip("-")) <= most


def plain_row(token):
    parts = token.split(",")
    return 1 <= len(parts) <= 3 and all(plain_integer(part) and int(part) >= 0 for part in parts)


def row_of(token):
    return tuple(int(part) for part in token.split(","))


def is_name(token, most=8):
    return re.fullmatch("[a-z]{1,%d}" % most, token) is not None


def plain_command(line):
    """The command of a line by the words of point 17.1, or None."""
    if not isinstance(line, str) or len(line) > 2000 or any(sign < SPACE or sign > TILDE for sign in line):
        return None
    tokens = [token for token in line.split(" ") if token]
    if not tokens or line[0] == "#":
        return ("empty",)
    word, rest = tokens[0], tokens[1:]
    for words, form in ((TWO, "nn"), (ONE, "n"), (BOUND, "ni"), (("beside", "crossed"), "nnn"), (("power",), "nni"),
                        (("special",), "nw"), (("class",), "nnw")):
        if word in words:
            tests = {"n": is_name, "i": plain_integer, "w": lambda token: is_name(token, 12)}
            if len(rest) != len(form) or not all(tests[kind](token) for kind, token in zip(form, rest)):
                return None
            return (word,) + tuple(int(token) if kind == "i" else token for kind, token in zip(form, rest))
    if word in ("folded", "part"):
        if len(rest) < 2 or not all(map(is_name, rest[:2])) or not all(map(plain_integer, rest[2:])):
            return None
        return (word, rest[0], rest[1], tuple(int(token) for token in rest[2:]))
    if word == "defined":
        if len(rest) < 2 or not is_name(rest[0]) or not all(map(plain_row, rest[1:])):
            return None
        return (word, rest[0], tuple(row_of(token) for token in rest[1:]))
    if word == "choice":
        if not rest or not plain_integer(rest[0]) or not 0 <= int(rest[0]) <= 60:
            return None
        m = int(rest[0])
        if not all(token in ("-", "a") or plain_row(token) and max(row_of(token)) < m for token in rest[1:]):
            return None
        told = {"-": (), "a": tuple(range(m))}
        return (word, m, tuple(told[token] if token in told else tuple(sorted(set(row_of(token)))) for token in rest[1:]))
    return told_structure(word, rest)


def told_structure(word, rest):
    """The commands that tell rows."""
    at = {"graph": 1, "table": 1, "more": 2}.get(word)
    least = {"graph": 3, "table": 4, "more": 4}.get(word)
    if at is None or len(rest) < least or rest[at] != "=" or not all(map(is_name, rest[:at])):
        return None
    numbers, rows = rest[at + 1:least], rest[least:]
    if not all(map(plain_integer, numbers)) or not all(map(plain_row, rows)):
        return None
    numbers, rows = [int(token) for token in numbers], [row_of(token) for token in rows]
    arity = 2 if word == "graph" else numbers[-1]
    if not 1 <= arity <= 3 or any(len(row) != arity for row in rows):
        return None
    if word == "more":
        return (word, rest[0], rest[1], arity, tuple(sorted(set(rows))))
    n = numbers[0]
    if not 0 <= n <= 60 or any(x >= n for row in rows for x in row):
        return None
    if word == "graph":
        return None if any(x == y for x, y in rows) else (word, rest[0], graph(n, rows))
    return (word, rest[0], (n, ((arity, tuple(sorted(set(rows)))),)))


class Lines(unittest.TestCase):
    def told(self, line):
        """The command, held against the plain one; None where the line has none of the forms."""
        right = plain_command(line)
        if right is None:
            with self.assertRaises(NoText) as caught:
                read_line(line)
            self.assertEqual(caught.exception.at, 0, line)
        else:
            self.assertEqual(repr(read_line(line)), repr(right), line)
        return right

    def test_forms(self):
        self.assertEqual(len({line.split()[0] for line, _ in LINES}), 38)
        for line, command in LINES:
            self.assertEqual(self.told(line), command)
            # A token less, one more, and others; spaces change nothing.
            tokens = line.split()
            for k in range(len(tokens)):
                self.told(" ".join(tokens[:k] + tokens[k + 1:]))
                for token in ("a", "0", "-1", "-", "=", "0,1", "1,1", "61", "ABC", "graph", "abcdefghi", "00", "1,", "~", "3,3,3"):
                    self.told(" ".join(tokens[:k] + [token] + tokens[k:]))
                    self.told(" ".join(tokens[:k] + [token] + tokens[k + 1:]))
            self.told(line + " a")
            self.told(line + " 0")
            self.assertEqual(self.told("  " + "   ".join(tokens) + " "), command)
            self.told(line.upper())
            self.assertEqual(self.told("#" + line), ("empty",))
            self.assertIsNone(self.told(" #" + line))

    def test_by_chance(self):
        rng = random.Random(1)
        parts = ["a", "b", "=", "0", "1", "2", "3", "0,1", "1,2", "1,1", "0,1,2", "-", "-1", "60", "61", "least", "majority"]
        words = sorted({line.split()[0] for line, _ in LINES})
        right = 0
        for _ in range(20000):
            word = rng.choice(words)
            tokens = [word] + [rng.choice(parts) for _ in range(rng.randint(0, 5))]
            if word in ("graph", "table", "more") and rng.random() < 0.7:
                tokens[1:1] = ["a", "="] if word != "more" else ["a", "b", "="]
            right += self.told(" ".join(tokens)) is not None
        self.assertGreater(right, 300)

    def test_empty(self):
        for line in ("", " ", " " * 2000, "#", "# a", "#" * 2000, "#graph"):
            self.assertEqual(self.told(line), ("empty",))
        for line in (" " * 2001, "#" * 2001, " # a", "a", "=", "empty", "- -", "\t", "#\t", " \n", "#\x7f", "#\u00e9", "\x1f"):
            self.assertIsNone(self.told(line), repr(line))
        self.assertEqual(self.told("# !~" + "x" * 1996), ("empty",))

    def test_length(self):
        line = "choice 3" + " 0" * 996
        self.assertEqual(len(line), 2000)
        self.assertEqual(self.told(line)[2], ((0,),) * 996)
        self.assertIsNone(self.told(line + " "))
        for sign in ("\x1f", "\x7f", "\t", "\n", "\u00a0", "\u0660"):
            self.assertIsNone(self.told("show a" + sign))
            self.assertIsNone(self.told("show" + sign + "a"))
        self.assertIsNone(self.told("show a~"))

    def test_names(self):
        for name in NAMES + ("abcdefg", "count", "empty", "a" * 8):
            self.assertEqual(self.told(f"show {name}"), ("show", name))
            self.assertEqual(self.told(f"graph {name} = 1"), ("graph", name, (1, ((2, ()),))))
        for name in ("", "a" * 9, "A", "aB", "a1", "a_b", "1", "-", "a-b", "a,b"):
            self.assertIsNone(self.told(f"show {name}"))
            self.assertIsNone(self.told(f"beside x {name} y"))
        self.assertIsNone(self.told("special a " + "w" * 13))
        self.assertEqual(self.told("special a w")[2], "w")

    def test_integers(self):
        for text, right in (("0", True), ("999999999999", True), ("-999999999999", True), ("1000000000000", False), ("+1", False),
                            ("-1000000000000", False), ("01", False), ("-0", False), ("00", False), ("-01", False), ("1_0", False),
                            ("--1", False), ("1.0", False), ("0x1", False), ("1,", False), ("-", False)):
            for line in (f"colour a {text}", f"power b a {text}", f"folded b a {text}"):
                self.assertIs(self.told(line) is not None, right, line)
        for text, right in (("0", True), ("999999999999", True), ("1000000000000", False), ("-1", False), ("0,-1", False),
                            ("0,00", False), (",0", False), ("0,", False), ("0,,1", False), ("0,1,2", True), ("0,1,2,3", False)):
            self.assertIs(self.told(f"defined a {text}") is not None, right, text)
            self.assertIs(self.told(f"more b a = 1 {text}") is not None, right and "," not in text, text)
        # Some spaces within a row make more tokens of it.
        self.assertIsNone(self.told("graph a = 3 0 ,1"))

    def test_bounds(self):
        for n, right in ((0, True), (60, True), (61, False), (-1, False)):
            self.assertIs(self.told(f"graph a = {n}") is not None, right)
            self.assertIs(self.told(f"table a = {n} 2") is not None, right)
            self.assertIs(self.told(f"choice {n}") is not None, right)
        for arity in (-1, 0, 1, 2, 3, 4):
            self.assertIs(self.told(f"table a = 4 {arity}") is not None, 1 <= arity <= 3)
            self.assertIs(self.told(f"more a b = {arity}") is not None, 1 <= arity <= 3)
        for line in ("graph a = 2 0,2", "graph a = 2 1,1", "table a = 2 2 0,2", "table a = 2 2 0", "table a = 2 1 0,1", "choice 2 2",
                     "choice 0 0", "choice 2 0,1,2", "graph a = 2 0", "graph a = 2 0,1,1", "more a b = 2 0"):
            self.assertIsNone(self.told(line), line)
        for line in ("table a = 2 2 1,1", "graph a = 2 0,1 1,0 0,1", "more a b = 2 99,7", "choice 2 1,1,0"):
            self.assertIsNotNone(self.told(line), line)

    def test_values(self):
        for value in WRONG + (b"show a", ["show a"], ("show a",), {"show a": 1}):
            if not isinstance(value, str):
                self.assertIsNone(self.told(value))
            else:
                self.told(value)


if __name__ == "__main__":
    unittest.main()
