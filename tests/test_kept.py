"""The check that finds ranges, zips and views that are kept against rule L23 finds them, and nothing else."""

import textwrap
import unittest

from kept import wrong_rows

RIGHT = """
    def told(xs, n, d):
        points = range(n)
        pairs = zip(xs, xs)
        for x in points:
            d[x] = [y for y in points if y in points]
        for k, x in enumerate(points):
            d[k] = points[0]
        rows = list(range(n)) + [x for x in reversed(range(n))]
        left = d.items()
        many = len(left) + len(range(n)) + sum(points)
        return [x for x, y in pairs] if 3 in range(n) else sorted(d.values())
"""
WRONG = (
    "columns = range(n) if xs else range(0)", "columns = range(n) or xs", "columns = [range(n)]",
    "points = range(n)\n    points = range(3)\n    return list(points)", "points = range(n)\n    return points",
    "points = range(n)\n    return told(points, n)", "points = range(n)\n    return points == xs",
    "points = range(n)\n    return points[1:]", "points = range(n)\n    return all(x in points for x in points)",
    "points = range(n)\n    return lambda: list(points)", "pairs = zip(xs, xs)\n    return list(pairs) + list(pairs)",
    "xs.pairs = zip(xs, xs)", "left = d.items()\n    return left", "return range(n)", "return reversed(xs)",
    "return told(range(n), n)", "return set(d.values())", "a = b = range(n)", "n = range(n)\n    return list(n)",
    "return len(d.values())", "return range(n) == xs", "return reversed(d.items())", "return (range(n), 1)",
)


class Kept(unittest.TestCase):
    def test_right(self):
        self.assertEqual(wrong_rows(textwrap.dedent(RIGHT)), [])

    def test_wrong(self):
        for rows in WRONG:
            self.assertNotEqual(wrong_rows("def told(xs, n, d):\n    " + rows + "\n"), [], rows)
        # The row by which the rule was broken once.
        self.assertEqual(wrong_rows("def f(v, n):\n    columns = range(n) if v else range(0)\n    return list(columns)\n"),
                         [2, 2])


if __name__ == "__main__":
    unittest.main()
