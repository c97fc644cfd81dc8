"""Plain judges for the papers of templates, points 16.14 to 16.17; nothing here uses the program."""

import itertools

from brute import plain_integer, plain_point, plain_refutation, plain_tuple
from judged import is_paper, plain_map
from plain import is_of_kind, plain_keeps, plain_list_structure

# The operations of the six classes over 0 and 1, as tables of their values.
CLASSES = {
    "zero": (1, (0, 0)), "one": (1, (1, 1)), "least": (2, tuple(min(row) for row in itertools.product((0, 1), repeat=2))),
    "greatest": (2, tuple(max(row) for row in itertools.product((0, 1), repeat=2))),
    "most": (3, tuple(int(sum(row) >= 2) for row in itertools.product((0, 1), repeat=3))),
    "odd": (3, tuple(sum(row) % 2 for row in itertools.product((0, 1), repeat=3)))}


def is_operation_of(f, B, k):
    n = B[0]
    if not (plain_tuple(f) and len(f) == n ** k and all(plain_point(v, n) for v in f)):
        return False
    return all(plain_keeps(f, n, k, rows) for _, rows in B[1] if rows)


def value_of(f, n, row):
    at = 0
    for x in row:
        at = at * n + x
    return f[at]


def breaks(f, B, rows):
    made = tuple(value_of(f, B[0], [row[place] for row in rows]) for place in range(len(rows[0])))
    return made not in rows


def defined_holds(B, rows, is_definable, paper):
    """Point 16.14; whether the table is definable is told."""
    if paper == ("formula",) and plain_tuple(paper):
        return is_definable
    if not is_paper(paper, 2) or paper[0] != "operation":
        return False
    return is_operation_of(paper[1], B, len(rows)) and breaks(paper[1], B, rows)


def decided_holds(B, paper):
    """Point 16.15."""
    if not is_paper(paper, 2):
        return False
    U = plain_list_structure(B)
    if paper[0] == "back":
        return plain_map(paper[1], U, B)
    return paper[0] == "stuck" and plain_refutation(U, B, paper[1]) == ()


def plain_power(B, k):
    n = B[0]
    tables = []
    for arity, rows in B[1]:
        made = set()
        for choice in itertools.product(rows, repeat=k):
            made.add(tuple(sum(row[place] * n ** (k - 1 - j) for j, row in enumerate(choice)) for place in range(arity)))
        tables.append((arity, tuple(sorted(made))))
    return (n ** k, tuple(tables))


def told_values(word, n):
    """The values that the identities of point 10.5 tell, by the rows of arguments."""
    told = {}
    for x in range(n):
        for y in range(n):
            if word == "maltsev":
                told[x, y, y] = x
                told[y, y, x] = x
            else:
                for row in ((x, x, y), (x, y, x), (y, x, x)):
                    told[row] = x if word == "majority" else y
    return told


def special_pair(B, word):
    """The two structures of point 16.16."""
    n = B[0]
    many, tables = plain_power(B, 3)
    told = told_values(word, n)
    held = [tuple(sorted((x * n * n + y * n + z,) for (x, y, z), v in told.items() if v == w)) for w in range(n)]
    one = (many, tables + tuple((1, rows) for rows in held))
    return one, (n, B[1] + tuple((1, ((x,),)) for x in range(n)))


def special_holds(B, word, paper):
    """Point 16.16."""
    if not is_paper(paper, 2):
        return False
    if paper[0] == "operation":
        return is_operation_of(paper[1], B, 3) and is_of_kind(paper[1], B[0], word)
    one, two = special_pair(B, word)
    return paper[0] == "none" and plain_refutation(one, two, paper[1]) == ()


def class_is_held(B, word):
    k, f = CLASSES[word]
    return all(plain_keeps(f, 2, k, rows) for _, rows in B[1] if rows)


def plain_fact(A, t, row):
    return plain_point(t, len(A[1])) and plain_tuple(row) and all(plain_integer(x) for x in row) and row in A[1][t][1]


def raised_holds(A, B, new, steps):
    """`new` is the value to which values change."""
    if not (plain_tuple(steps) and steps):
        return False
    values = [1 - new] * A[0]
    for k, step in enumerate(steps):
        if not (plain_tuple(step) and len(step) == 2 and plain_fact(A, *step)):
            return False
        t, row = step
        fits = [told for told in B[1][t][1] if all(v == new for v, x in zip(told, row) if values[x] == new)]
        if k == len(steps) - 1:
            return not fits
        if not fits:
            return False
        for place in range(len(row)):
            if all(told[place] == new for told in fits):
                values[row[place]] = new
    return False


def way_ends(A, B, steps):
    if not (plain_tuple(steps) and steps):
        return None
    spots = []
    for step in steps:
        if not (plain_tuple(step) and len(step) == 6 and plain_fact(A, step[0], step[1])):
            return None
        t, row, i, a, j, b = step
        if not all(plain_point(k, len(row)) for k in (i, j)) or not all(plain_point(v, 2) for v in (a, b)):
            return None
        if any(told[i] == a and told[j] == b for told in B[1][t][1]):
            return None
        if spots and spots[-1] != (row[i], a):
            return None
        spots = (spots or [(row[i], a)]) + [(row[j], 1 - b)]
    return spots[0], spots[-1]


def round_holds(A, B, there, back):
    one, two = way_ends(A, B, there), way_ends(A, B, back)
    if one is None or two is None:
        return False
    x = one[0][0]
    return one == ((x, 0), (x, 1)) and two == ((x, 1), (x, 0))


def sum_holds(A, B, rows):
    if not plain_tuple(rows):
        return False
    counts, total = [0] * A[0], 0
    for told in rows:
        if not (plain_tuple(told) and len(told) == 3 and plain_fact(A, told[0], told[1])):
            return False
        t, row, factors = told
        if not (plain_tuple(factors) and len(factors) == len(row) + 1 and all(plain_point(c, 2) for c in factors)):
            return False
        for values in B[1][t][1]:
            if sum(c * v for c, v in zip(factors, values)) % 2 != factors[-1]:
                return False
        for x, c in zip(row, factors):
            counts[x] += c
        total += factors[-1]
    return all(c % 2 == 0 for c in counts) and total % 2 == 1


def class_holds(A, B, word, paper):
    """Point 16.17."""
    if not (plain_tuple(paper) and paper and isinstance(paper[0], str)) or not class_is_held(B, word):
        return False
    if len(paper) == 3:
        return paper[0] == "round" and word == "most" and round_holds(A, B, paper[1], paper[2])
    if len(paper) != 2:
        return False
    kind, told = paper
    if kind == "map":
        return plain_map(told, A, B)
    if kind == "empty":
        return plain_point(told, len(A[1])) and bool(A[1][told][1]) and not B[1][told][1]
    if kind == "raised" and word in ("least", "greatest"):
        return raised_holds(A, B, 1 if word == "least" else 0, told)
    return kind == "sum" and word == "odd" and sum_holds(A, B, told)
