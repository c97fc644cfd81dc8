"""Matrices of fractions and of integers (point 8.1).

A line is a list of integers here: a row of fractions multiplied by a common
denominator. Lines are made into each other without leaving the integers.
"""

from math import gcd

from probeweb.errors import Malformed
from probeweb.whole import is_integer, is_number_from, is_ratio, least_common, ratio


def _is_row(value, width):
    """True for a tuple of as many fractions as told."""
    return isinstance(value, tuple) and len(value) == width and all([is_ratio(a) for a in value])


def _check_rows(rows, width):
    """None for a list or tuple of rows of fractions of this width."""
    if not is_number_from(width, 0):
        raise Malformed("no width")
    if not (isinstance(rows, (list, tuple)) and all([_is_row(row, width) for row in rows])):
        raise Malformed("no rows of this width")


def _check_column(rows, column):
    """None for a column of as many fractions as there are rows."""
    if not _is_row(column, len(rows)):
        raise Malformed("no column")


def _check_matrix(value):
    """None for a matrix of fractions with at least one row."""
    if not (isinstance(value, tuple) and len(value) > 0 and isinstance(value[0], tuple)):
        raise Malformed("no matrix")
    _check_rows(value, len(value[0]))


def _whole_line(row):
    """A row of fractions multiplied by its least common denominator."""
    common = 1
    for a in row:
        common = least_common(common, a[1])
    return [n * (common // d) for n, d in row]


def _shortened(line):
    """A line divided by the common divisor of its items."""
    common = 0
    for a in line:
        common = gcd(common, a)
        if common == 1:
            return line
    return [a // common for a in line] if common > 1 else line


def _cleared(line, by, column):
    """A multiple of the line, less one of the line `by`, that has 0 in a column where `by` has not."""
    factor = line[column]
    if factor == 0:
        return line
    head = by[column]
    return _shortened([a * head - b * factor for a, b in zip(line, by)])


def _eliminated(lines, width):
    """The lines, made into each other, and the heads among the columns below the width.

    The first lines have the heads, each of which is alone in its column; the
    other lines have only 0 in these columns.
    """
    heads = []
    for column in range(width):
        done = len(heads)
        # Without this a great width without lines would be walked through.
        if done == len(lines):
            break
        found = [k for k in range(done, len(lines)) if lines[k][column] != 0]
        if found:
            k = found[0]
            by = lines[k]
            others = lines[:done] + lines[done:k] + lines[k + 1:]
            cleared = [_cleared(line, by, column) for line in others]
            lines = cleared[:done] + [by] + cleared[done:]
            heads.append(column)
    return lines, heads


def _divided(line, head):
    """The fractions of the items of a line over one integer."""
    return tuple([ratio(a, head) for a in line])


class LineSpace:
    """Lines of integers, kept as long as they are no sums of multiples of those before."""

    def __init__(self):
        self.kept = []

    def take(self, line):
        """Keeps the line, if it is no sum of multiples of the kept ones; True if so."""
        for head, told in self.kept:
            line = _cleared(line, told, head)
        heads = [k for k, a in enumerate(line) if a != 0]
        if not heads:
            return False
        self.kept.append((heads[0], line))
        return True


def fraction_product(one, two):
    """The product of two matrices."""
    _check_matrix(one)
    _check_matrix(two)
    if len(one[0]) != len(two):
        raise Malformed("matrices that do not fit")
    # With whole columns and rows there is one division for each item.
    columns = [(_whole_line(column), _common(column)) for column in _turned(two, len(two[0]))]
    made = []
    for row in one:
        line, common = _whole_line(row), _common(row)
        made.append(tuple([ratio(_met(line, column), common * other) for column, other in columns]))
    return tuple(made)


def _common(row):
    """The least common denominator of a row."""
    common = 1
    for a in row:
        common = least_common(common, a[1])
    return common


def _met(one, two):
    """The sum of the products of the items of two lines."""
    return sum([a * b for a, b in zip(one, two)])


def _turned(rows, width):
    return tuple([tuple([row[k] for row in rows]) for k in range(width)])


def turned_rows(rows, width):
    """The turned matrix."""
    _check_rows(rows, width)
    return _turned(rows, width)


def unit_rows(n):
    """The unit matrix."""
    if not is_number_from(n, 0):
        raise Malformed("no number of rows")
    return tuple([_unit_row(k, n) for k in range(n)])


def _unit_row(k, n):
    return ((0, 1),) * k + ((1, 1),) + ((0, 1),) * (n - 1 - k)


def reduced_rows(rows, width):
    """The pair of the reduced matrix and the tuple of its heads."""
    _check_rows(rows, width)
    lines, heads = _eliminated([_whole_line(row) for row in rows], width)
    return tuple([_divided(line, line[head]) for line, head in zip(lines, heads)]), tuple(heads)


def fraction_rank(rows, width):
    """The number of rows of the reduced matrix."""
    _check_rows(rows, width)
    return len(_eliminated([_whole_line(row) for row in rows], width)[1])


def fraction_solve(rows, width, column):
    """The solution with 0 at all places that are no heads, or None."""
    _check_rows(rows, width)
    _check_column(rows, column)
    longer = [_whole_line(row + (a,)) for row, a in zip(rows, column)]
    lines, heads = _eliminated(longer, width)
    if any([line[width] != 0 for line in lines[len(heads):]]):
        return None
    told = {head: ratio(line[width], line[head]) for line, head in zip(lines, heads)}
    return tuple([told.get(k, (0, 1)) for k in range(width)])


def fraction_bar(rows, width, column):
    """A row that times the rows is 0 and times the column 1, or None."""
    _check_rows(rows, width)
    _check_column(rows, column)
    many = len(rows)
    longer = [_whole_line(row + (column[k],) + _unit_row(k, many)) for k, row in enumerate(rows)]
    lines, heads = _eliminated(longer, width)
    for line in lines[len(heads):]:
        if line[width] != 0:
            return _divided(line[width + 1:], line[width])
    return None


def fraction_kernel(rows, width):
    """For each place that is no head the solution of `R x = 0` with 1 there."""
    _check_rows(rows, width)
    lines, heads = _eliminated([_whole_line(row) for row in rows], width)
    places = {head: k for k, head in enumerate(heads)}
    made = []
    for free in range(width):
        if free not in places:
            told = {head: ratio(-lines[k][free], lines[k][head]) for head, k in places.items()}
            told[free] = (1, 1)
            made.append(tuple([told.get(k, (0, 1)) for k in range(width)]))
    return tuple(made)


def fraction_inverse(rows):
    """The inverse of a square matrix, or None if there is none."""
    if not isinstance(rows, (list, tuple)):
        raise Malformed("no rows")
    n = len(rows)
    _check_rows(rows, n)
    lines, heads = _eliminated([_whole_line(row + _unit_row(k, n)) for k, row in enumerate(rows)], n)
    if len(heads) < n:
        return None
    return tuple([_divided(line[n:], line[k]) for k, line in enumerate(lines)])


def _is_whole_row(value, width):
    """True for a tuple of as many integers as told."""
    return isinstance(value, tuple) and len(value) == width and all([is_integer(a) for a in value])


def whole_determinant(rows):
    """The determinant of a square matrix of integers, an integer."""
    if not (isinstance(rows, (list, tuple)) and all([_is_whole_row(row, len(rows)) for row in rows])):
        raise Malformed("no square matrix of integers")
    lines = [list(row) for row in rows]
    sign = 1
    before = 1
    for k in range(len(lines)):
        found = [j for j in range(k, len(lines)) if lines[j][k] != 0]
        if not found:
            return 0
        if found[0] != k:
            sign = -sign
            lines[k], lines[found[0]] = lines[found[0]], lines[k]
        by = lines[k]
        for j in range(k + 1, len(lines)):
            factor = lines[j][k]
            # Each item is a determinant of a part of the matrix, so the division leaves no rest.
            lines[j] = [(a * by[k] - b * factor) // before for a, b in zip(lines[j], by)]
        before = by[k]
    return sign * before
