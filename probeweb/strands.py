"""Strands as probes with two open points, told row by row (points 4.4 to 4.6)."""

from probeweb.errors import Malformed, Refused
from probeweb.structures import (
    MOST_POINTS, arities_of, check_binary, check_kind, is_point, is_point_tuple)
from probeweb.whole import check_modulus

MOST_COUNTED = 400
SONS = {"turn": 1, "both": 2, "through": 2}


def _check_binary_kind(kind):
    check_kind(kind)
    if 3 in kind:
        raise Malformed("no binary kind")


def _is_fact_row(value, kind):
    """True for a row of one fact."""
    if len(value) != 3 or not is_point(value[1], len(kind)):
        return False
    return is_point_tuple(value[2], 2, kind[value[1]])


def _is_strand_row(value, kind, i):
    """True for a row with the index `i` of a strand."""
    if not (isinstance(value, tuple) and len(value) > 0 and isinstance(value[0], str)):
        return False
    word = value[0]
    if word == "fact":
        return _is_fact_row(value, kind)
    if word in SONS:
        return is_point_tuple(value[1:], i, SONS[word])
    return word in ("all", "same") and len(value) == 1


def is_strand(value, kind):
    """True for a strand of the binary kind, for every value."""
    _check_binary_kind(kind)
    if not (isinstance(value, tuple) and len(value) > 0):
        return False
    for i, row in enumerate(value):
        if not _is_strand_row(row, kind, i):
            return False
    return True


def _check_strand(strand, kind):
    if not is_strand(strand, kind):
        raise Malformed("no strand")


def _check_strand_in(strand, A):
    check_binary(A)
    _check_strand(strand, arities_of(A))


def _used_rows(strand):
    """For each row True if the last row is made of it, else False."""
    used = [False] * len(strand)
    used[-1] = True
    for i in reversed(range(len(strand))):
        if used[i] and strand[i][0] in SONS:
            for j in strand[i][1:]:
                used[j] = True
    return used


def _inner_numbers(strand):
    """For each row the number of its inner points, and True if its open points are one point."""
    told = []
    for row in strand:
        if row[0] == "turn":
            told.append(told[row[1]])
        elif row[0] == "both":
            (one, closed), (two, shut) = told[row[1]], told[row[2]]
            told.append((one + two, closed or shut))
        elif row[0] == "through":
            (one, closed), (two, shut) = told[row[1]], told[row[2]]
            # The point gone through is an inner one unless it is an open one, too.
            told.append((one + two + (0 if closed or shut else 1), closed and shut))
        else:
            told.append((0, row[0] == "same"))
    return told


def strand_points(strand, kind):
    """The number of points of the probe's structure."""
    _check_strand(strand, kind)
    inner, closed = _inner_numbers(strand)[-1]
    return inner + (1 if closed else 2)


def _facts_matrix(A, row):
    """1 at the pairs that the row of one fact takes to a fact, as a list of lists."""
    _, t, places = row
    facts = {fact: True for fact in A[1][t][1]}
    points = range(A[0])
    return [[1 if tuple([(x, y)[k] for k in places]) in facts else 0 for y in points] for x in points]


def _matrix(A, row, numbers):
    """The numbers `M(x, y)` of a row, those of its sons at hand."""
    points = range(A[0])
    if row[0] == "all":
        return [[1 for y in points] for x in points]
    if row[0] == "same":
        return [[1 if x == y else 0 for y in points] for x in points]
    if row[0] == "fact":
        return _facts_matrix(A, row)
    one = numbers[row[1]]
    if row[0] == "turn":
        return [[one[y][x] for y in points] for x in points]
    two = numbers[row[2]]
    if row[0] == "both":
        return [[a * b for a, b in zip(one[x], two[x])] for x in points]
    columns = [[two[z][y] for z in points] for y in points]
    return [[sum([a * b for a, b in zip(one[x], column)]) for column in columns] for x in points]


def _numbers(strand, A, used, modulus):
    """For each used row its matrix of numbers, () for the others; their rests if the modulus is not 0."""
    numbers = []
    for i, row in enumerate(strand):
        matrix = _matrix(A, row, numbers) if used[i] else []
        if modulus != 0:
            matrix = [[number % modulus for number in line] for line in matrix]
        numbers.append(tuple([tuple(line) for line in matrix]))
    return tuple(numbers)


def strand_rests(strand, A, l):
    """For each row the rests of the numbers `M(x, y)` modulo `l`."""
    _check_strand_in(strand, A)
    check_modulus(l)
    return _numbers(strand, A, [True] * len(strand), l)


def strand_rest(strand, A, l):
    """The rest of the number of maps modulo `l`."""
    _check_strand_in(strand, A)
    check_modulus(l)
    last = _numbers(strand, A, _used_rows(strand), l)[-1]
    return sum([sum(line) for line in last]) % l


def strand_number(strand, A):
    """The number of maps of the probe."""
    _check_strand_in(strand, A)
    if strand_points(strand, arities_of(A)) > MOST_COUNTED:
        raise Refused("large")
    last = _numbers(strand, A, _used_rows(strand), 0)[-1]
    return sum([sum(line) for line in last])


def _turned_masks(masks):
    """The masks of the columns of a square matrix that is told by the masks of its rows."""
    points = range(len(masks))
    return [sum([1 << x for x in points if masks[x] >> y & 1 == 1]) for y in points]


def gone_through(mask, masks):
    """The mask of all that the points of the mask lead to."""
    met = 0
    for z, further in enumerate(masks):
        if mask >> z & 1 == 1:
            met = met | further
    return met


def _reach_masks(A, row, reaches):
    """For each `x` the mask of the `y` with a number above 0, those of its sons at hand."""
    if row[0] not in SONS:
        matrix = _matrix(A, row, ())
        return [sum([1 << y for y in range(A[0]) if line[y] == 1]) for line in matrix]
    one = reaches[row[1]]
    if row[0] == "turn":
        return _turned_masks(one)
    two = reaches[row[2]]
    if row[0] == "both":
        return [a & b for a, b in zip(one, two)]
    return [gone_through(mask, two) for mask in one]


def strand_reaches(strand, A):
    """The reaches of all rows."""
    _check_strand_in(strand, A)
    reaches = []
    for row in strand:
        reaches.append(_reach_masks(A, row, reaches))
    points = range(A[0])
    return tuple([tuple([(x, y) for x in points for y in points if masks[x] >> y & 1 == 1]) for masks in reaches])


def _moved(shape, x, y, first):
    """The facts of a shape with its open points at `x` and `y`, and its inner ones from `first` on."""
    _, _, facts = shape
    names = {"x": x, "y": y}
    return {(t, tuple([names[p] if p in names else p + first for p in row])): True for t, row in facts}


def _shape_of_both(one, two):
    facts = _moved(one, "x", "y", 0)
    facts.update(_moved(two, "x", "y", one[0]))
    return one[0] + two[0], one[1] or two[1], facts


def _shape_of_through(one, two):
    many = one[0] + two[0]
    middle = many
    if one[1]:
        middle = "x"
    elif two[1]:
        middle = "y"
    closed = one[1] and two[1]
    facts = _moved(one, "x", middle, 0)
    facts.update(_moved(two, middle, "x" if closed else "y", one[0]))
    return many + (1 if middle == many else 0), closed, facts


def _shape(row, shapes):
    """The structure of a row, those of its sons at hand.

    It is told by the number of its inner points, numbered from 0 on, True
    if its open points are one point, and a dict with its facts; the open
    points are called x and y in them, both names of the one point if so.
    """
    if row[0] == "all":
        return 0, False, {}
    if row[0] == "same":
        return 0, True, {}
    if row[0] == "fact":
        return 0, False, {(row[1], tuple([("x", "y")[k] for k in row[2]])): True}
    one = shapes[row[1]]
    if row[0] == "turn":
        return one[0], one[1], _moved(one, "y", "x", 0)
    if row[0] == "both":
        return _shape_of_both(one, shapes[row[2]])
    return _shape_of_through(one, shapes[row[2]])


def strand_unfolded(strand, kind):
    """The probe as a structure: the open points first, then the inner ones."""
    n = strand_points(strand, kind)
    if n > MOST_POINTS:
        raise Refused("large")
    used = _used_rows(strand)
    shapes = []
    for i, row in enumerate(strand):
        shapes.append(_shape(row, shapes) if used[i] else None)
    inner = shapes[-1][0]
    tables = [[] for _ in kind]
    for t, row in _moved(shapes[-1], 0, n - inner - 1, n - inner):
        tables[t].append(row)
    return n, tuple([(arity, tuple(sorted(rows))) for arity, rows in zip(kind, tables)])
