"""Plain answers for the tests, told straight from the words of the document.

Nothing here uses the program. The random structures are made from fixed
seeds, so each run of the tests is the same.
"""

import itertools
import random
from fractions import Fraction


def deep(depth):
    """A tuple nested as deep as told."""
    value = ()
    for _ in range(depth - 1):
        value = (value,)
    return value


WRONG = (
    None, True, False, "", "a", "0", "all", [], [0], (), (0,), ("a",), (None,), (True,), [()], ((),), (0, 0, 0, 0),
    0, 1, -1, 2, 61, 10 ** 60, -10 ** 60, (-1,), (10 ** 60,), deep(60), (0, ()), [0, ()], (0, []), (True, ()),
    (1, ((1, ((0,),)),)), ((0, 1), (1, 0)), (("all",),), (((), 1), ("some", 0)), ValueError("a"),
)


def plain_integer(value):
    return isinstance(value, int) and not isinstance(value, bool)


def plain_point(value, n):
    return plain_integer(value) and 0 <= value < n


def plain_tuple(value):
    return isinstance(value, tuple)


def plain_ascending(items):
    return all(one < other for one, other in zip(items, items[1:]))


def plain_structure(value):
    """Point 1.2."""
    if not (plain_tuple(value) and len(value) == 2 and plain_integer(value[0]) and 0 <= value[0] <= 60):
        return False
    n, tables = value
    if not (plain_tuple(tables) and len(tables) <= 6):
        return False
    for table in tables:
        if not (plain_tuple(table) and len(table) == 2 and plain_integer(table[0]) and table[0] in (1, 2, 3)):
            return False
        arity, rows = table
        if not (plain_tuple(rows) and len(rows) <= 4000):
            return False
        for row in rows:
            if not (plain_tuple(row) and len(row) == arity and all(plain_point(x, n) for x in row)):
                return False
        if not plain_ascending(rows):
            return False
    return True


def variants(value, wrong=(None, True, False, "a", -1, 0, 1, 2, (), [], 10 ** 60)):
    """Values that are like the told one, but for one place."""
    for other in wrong:
        yield other
    if isinstance(value, tuple):
        yield list(value)
        yield value + value[-1:]
        yield value[:-1]
        yield value[::-1]
        yield value + (0,)
        for k, item in enumerate(value):
            for other in variants(item, wrong):
                yield value[:k] + (other,) + value[k + 1:]
    elif plain_integer(value):
        yield value + 1
        yield value - 1
        if value in (0, 1):
            yield bool(value)


def structure(rng, kind, n, most):
    """A random structure of the kind with `n` points and at most `most` rows in each table."""
    tables = []
    for arity in kind:
        rows = set()
        for _ in range(rng.randint(0, most) if n > 0 else 0):
            rows.add(tuple(rng.randrange(n) for _ in range(arity)))
        tables.append((arity, tuple(sorted(rows))))
    return (n, tuple(tables))


def random_kind(rng, arities, most):
    return tuple(rng.choice(arities) for _ in range(rng.randint(0, most)))


def random_pair(seed, arities=(1, 2, 3), tables=3, most_a=4, most_b=4, rows_a=5, rows_b=8):
    """Two random structures of one kind."""
    rng = random.Random(seed)
    kind = random_kind(rng, arities, tables)
    A = structure(rng, kind, rng.randint(0, most_a), rows_a)
    B = structure(rng, kind, rng.randint(0, most_b), rows_b)
    return A, B


def graph(n, edges):
    rows = {(x, y) for x, y in edges} | {(y, x) for x, y in edges}
    return (n, ((2, tuple(sorted(rows))),))


def full_graph(n):
    return graph(n, [(x, y) for x in range(n) for y in range(x)])


def ring(n):
    return graph(n, [(k, (k + 1) % n) for k in range(n)])


def directed_path(n):
    return (n, ((2, tuple((k, k + 1) for k in range(n - 1))),))


def plain_is_map(f, A, B):
    for (_, rows), (_, others) in zip(A[1], B[1]):
        if not all(tuple(f[x] for x in row) in others for row in rows):
            return False
    return True


def plain_maps(A, B):
    """All maps, ascending, by trying all functions."""
    return [f for f in itertools.product(range(B[0]), repeat=A[0]) if plain_is_map(f, A, B)]


def hom(A, B):
    return len(plain_maps(A, B))


def plain_joined(A):
    near = {x: set() for x in range(A[0])}
    for _, rows in A[1]:
        for row in rows:
            for x in row:
                near[x] |= {y for y in row if y != x}
    return near


def plain_image(A, f, n):
    tables = []
    for arity, rows in A[1]:
        tables.append((arity, tuple(sorted({tuple(f[x] for x in row) for row in rows}))))
    return (n, tuple(tables))


def plain_tree(value, kind):
    """Point 3.3."""
    if not (plain_tuple(value) and len(value) > 0):
        return False
    for i, row in enumerate(value):
        if not plain_tuple(row):
            return False
        for branch in row:
            if not (plain_tuple(branch) and len(branch) == 4):
                return False
            t, place, sons, times = branch
            if not (plain_point(t, len(kind)) and plain_point(place, kind[t]) and plain_tuple(sons)):
                return False
            if len(sons) != kind[t] - 1 or not all(plain_point(j, i) for j in sons):
                return False
            if not plain_integer(times) or times < 1:
                return False
    return True


def random_tree(rng, kind, rows, branches=2, times=2):
    """A random tree of the kind."""
    tree = []
    for i in range(rows):
        row = []
        for _ in range(rng.randint(0, branches) if kind else 0):
            t = rng.randrange(len(kind))
            if kind[t] > 1 and i == 0:
                continue
            sons = tuple(rng.randrange(i) for _ in range(kind[t] - 1))
            row.append((t, rng.randrange(kind[t]), sons, rng.randint(1, times)))
        tree.append(tuple(row))
    return tuple(tree)


def unfold(tree, kind, i=None):
    """The tree of a row as a pair of its number of points and its set of facts; the root is 0."""
    i = len(tree) - 1 if i is None else i
    n = 1
    facts = set()
    for t, place, sons, times in tree[i]:
        for _ in range(times):
            row = []
            for j in sons:
                size, inner = unfold(tree, kind, j)
                facts |= {(s, tuple(x + n for x in told)) for s, told in inner}
                row.append(n)
                n += size
            row.insert(place, 0)
            facts.add((t, tuple(row)))
    return n, facts


def from_facts(n, facts, kind):
    tables = []
    for t, arity in enumerate(kind):
        tables.append((arity, tuple(sorted(row for s, row in facts if s == t))))
    return (n, tuple(tables))


def rooted_numbers(probe, A, root=0):
    """The numbers of the maps of the probe with the root at each point."""
    counts = [0] * A[0]
    for f in plain_maps(probe, A):
        counts[f[root]] += 1
    return counts


def plain_supported(A, B, lists, a, b):
    """True if each fact at `a` is supported for `b`, by the lists of the other places."""
    for (_, rows), (_, others) in zip(A[1], B[1]):
        for row in rows:
            for place, x in enumerate(row):
                if x == a and not any(
                        other[place] == b and all(other[k] in lists[row[k]] for k in range(len(row)) if k != place)
                        for other in others):
                    return False
    return True


def plain_rounds(A, B, most):
    """The lists of the rounds 0 to `most`."""
    lists = [tuple(range(B[0])) for _ in range(A[0])]
    rounds = [tuple(lists)]
    for _ in range(most):
        lists = [tuple(b for b in range(B[0]) if plain_supported(A, B, rounds[-1], a, b)) for a in range(A[0])]
        rounds.append(tuple(lists))
    return rounds


def plain_keeps(A, B, a, c, b, d):
    """Point 4.1."""
    if a == c and b != d:
        return False
    for (_, rows), (_, others) in zip(A[1], B[1]):
        for row in rows:
            if set(row) <= {a, c} and tuple(b if x == a else d for x in row) not in others:
                return False
    return True


def plain_first_sets(A, B):
    sets = {}
    for a in range(A[0]):
        for c in range(A[0]):
            sets[a, c] = {(b, d) for b in range(B[0]) for d in range(B[0]) if plain_keeps(A, B, a, c, b, d)}
    return sets


def plain_next_sets(A, B, sets):
    after = {}
    for (a, e), pairs in sets.items():
        after[a, e] = {
            (b, d) for b, d in pairs
            if all(any((b, z) in sets[a, c] and (z, d) in sets[c, e] for z in range(B[0])) for c in range(A[0]))}
    return after


def sets_as_strategy(A, sets):
    return tuple(tuple(tuple(sorted(sets[a, c])) for c in range(A[0])) for a in range(A[0]))


def plain_strand(value, kind):
    """Point 4.4."""
    if not (plain_tuple(value) and len(value) > 0):
        return False
    for i, row in enumerate(value):
        if not (plain_tuple(row) and len(row) > 0):
            return False
        if row in (("all",), ("same",)):
            continue
        if row[0] == "fact" and len(row) == 3 and plain_point(row[1], len(kind)) and plain_tuple(row[2]):
            if len(row[2]) == kind[row[1]] and all(plain_point(k, 2) for k in row[2]):
                continue
        if row[0] == "turn" and len(row) == 2 and plain_point(row[1], i):
            continue
        if row[0] in ("both", "through") and len(row) == 3 and all(plain_point(j, i) for j in row[1:]):
            continue
        return False
    return True


def random_strand(rng, kind, rows):
    strand = []
    for i in range(rows):
        words = ["all", "same"] + ["fact"] * 3 * bool(kind) + ["turn", "both", "both", "through", "through"] * bool(i)
        word = rng.choice(words)
        if word in ("all", "same"):
            strand.append((word,))
        elif word == "fact":
            t = rng.randrange(len(kind))
            strand.append((word, t, tuple(rng.randrange(2) for _ in range(kind[t]))))
        elif word == "turn":
            strand.append((word, rng.randrange(i)))
        else:
            strand.append((word, rng.randrange(i), rng.randrange(i)))
    return tuple(strand)


def strand_shape(strand, i):
    """The structure of a row: its set of points, its facts, and its open points; points have any names."""
    row = strand[i]
    if row[0] == "all":
        return {"x", "y"}, set(), "x", "y"
    if row[0] == "same":
        return {"x"}, set(), "x", "x"
    if row[0] == "fact":
        return {"x", "y"}, {(row[1], tuple("xy"[k] for k in row[2]))}, "x", "y"
    if row[0] == "turn":
        points, facts, x, y = strand_shape(strand, row[1])
        return points, facts, y, x
    one = shape_with(strand_shape(strand, row[1]), 0)
    two = shape_with(strand_shape(strand, row[2]), 1)
    points, facts = one[0] | two[0], one[1] | two[1]
    if row[0] == "both":
        return merged(points, facts, [(one[2], two[2]), (one[3], two[3])], one[2], one[3])
    return merged(points, facts, [(one[3], two[2])], one[2], two[3])


def shape_with(shape, mark):
    points, facts, x, y = shape
    renamed = {(t, tuple((mark, p) for p in row)) for t, row in facts}
    return {(mark, p) for p in points}, renamed, (mark, x), (mark, y)


def merged(points, facts, equal, x, y):
    name = {p: p for p in points}
    for p, q in equal:
        old, new = name[q], name[p]
        for r in name:
            if name[r] == old:
                name[r] = new
    renamed = {(t, tuple(name[p] for p in row)) for t, row in facts}
    return set(name.values()), renamed, name[x], name[y]


def strand_structure(strand, kind, i=None):
    """The structure of a row, and its open points as numbers."""
    points, facts, x, y = strand_shape(strand, len(strand) - 1 if i is None else i)
    numbers = {p: k for k, p in enumerate(sorted(points, key=repr))}
    renamed = {(t, tuple(numbers[p] for p in row)) for t, row in facts}
    return from_facts(len(numbers), renamed, kind), numbers[x], numbers[y]


def plain_nogood(A, B, value):
    if not plain_tuple(value):
        return False
    for choice in value:
        if not (plain_tuple(choice) and len(choice) == 2):
            return False
        if not (plain_point(choice[0], A[0]) and plain_point(choice[1], B[0])):
            return False
    return plain_ascending(value) and len({x for x, _ in value}) == len(value)


def plain_openings(A, B, nogood, t, i):
    fact = A[1][t][1][i]
    found = []
    for row in B[1][t][1]:
        values = list(zip(fact, row))
        if len(dict(values)) == len(set(values)) and all(v == w for x, v in nogood for y, w in values if x == y):
            found.append(row)
    return tuple(found)


def plain_refutation(A, B, value):
    """The nogood at the end of a refutation, or None; point 5.2 row by row."""
    if not (plain_tuple(value) and len(value) > 0):
        return None
    for k, row in enumerate(value):
        if not (plain_tuple(row) and len(row) == 2 and plain_nogood(A, B, row[0]) and plain_tuple(row[1])):
            return None
        nogood, reason = row
        if len(reason) == 3 and reason[0] == "point":
            x, js = reason[1:]
            if not plain_point(x, A[0]) or x in [y for y, _ in nogood]:
                return None
            rights = [set(nogood) | {(x, v)} for v in range(B[0])]
        elif len(reason) == 4 and reason[0] == "fact":
            t, i, js = reason[1:]
            if not plain_point(t, len(A[1])) or not plain_point(i, len(A[1][t][1])):
                return None
            openings = plain_openings(A, B, nogood, t, i)
            rights = [set(nogood) | set(zip(A[1][t][1][i], opening)) for opening in openings]
        else:
            return None
        if not (plain_tuple(js) and len(js) == len(rights) and all(plain_point(j, k) for j in js)):
            return None
        if not all(set(value[j][0]) <= right for j, right in zip(js, rights)):
            return None
    return value[-1][0]


def plain_span(A, row):
    nogood, reason = row
    points = {x for x, _ in nogood}
    return len(points | ({reason[1]} if reason[0] == "point" else set(A[1][reason[1]][1][reason[2]])))


def plain_plane(A, B, value):
    if not (plain_tuple(value) and len(value) == 2 and plain_tuple(value[0]) and plain_integer(value[1])):
        return False
    for item in value[0]:
        if not (plain_tuple(item) and len(item) == 2 and plain_integer(item[1]) and item[1] != 0):
            return False
        if not plain_nogood(A, B, (item[0],)):
            return False
    choices = [choice for choice, _ in value[0]]
    return choices == sorted(set(choices))


def written_plane(numbers, bound):
    return tuple(sorted((choice, c) for choice, c in numbers.items() if c != 0)), bound


def plain_told_plane(A, B, planes, reason):
    """The plane of a reason of point 5.7, or None."""
    if not (plain_tuple(reason) and len(reason) > 1):
        return None
    word, args = reason[0], reason[1:]
    if word == "some" and len(args) == 1 and plain_point(args[0], A[0]):
        return written_plane({(args[0], v): 1 for v in range(B[0])}, 1)
    if word in ("least", "most") and len(args) == 2 and plain_nogood(A, B, (args,)):
        return written_plane({args: 1}, 0) if word == "least" else written_plane({args: -1}, -1)
    if word == "fact" and len(args) == 3 and plain_point(args[0], len(A[1])):
        t, i, images = args
        if plain_point(i, len(A[1][t][1])) and plain_tuple(images) and len(images) == A[1][t][0]:
            if all(plain_point(v, B[0]) for v in images) and images not in B[1][t][1]:
                pairs = set(zip(A[1][t][1][i], images))
                if len(dict(pairs)) == len(pairs):
                    return written_plane({pair: -1 for pair in pairs}, 1 - len(pairs))
    if word == "sum" and len(args) == 1 and plain_tuple(args[0]) and len(args[0]) > 0:
        for term in args[0]:
            if not (plain_tuple(term) and len(term) == 2 and plain_point(term[0], len(planes))):
                return None
            if not (plain_integer(term[1]) and term[1] >= 1):
                return None
        if plain_ascending([j for j, _ in args[0]]):
            numbers = {}
            for j, m in args[0]:
                for choice, c in planes[j][0]:
                    numbers[choice] = numbers.get(choice, 0) + m * c
            return written_plane(numbers, sum(m * planes[j][1] for j, m in args[0]))
    if word == "cut" and len(args) == 2 and plain_point(args[0], len(planes)):
        if plain_integer(args[1]) and args[1] >= 2:
            items, bound = planes[args[0]]
            if all(c % args[1] == 0 for _, c in items):
                up = bound // args[1] + (bound % args[1] != 0)
                return written_plane({choice: c // args[1] for choice, c in items}, up)
    return None


def plain_cutting(A, B, value):
    """The plane at the end of a cutting, or None."""
    if not (plain_tuple(value) and len(value) > 0):
        return None
    planes = []
    for row in value:
        if not (plain_tuple(row) and len(row) == 2 and plain_plane(A, B, row[0])):
            return None
        if row[0] != plain_told_plane(A, B, planes, row[1]):
            return None
        planes.append(row[0])
    return planes[-1]


def plain_signature(A, colours, x):
    triples = []
    for t, (_, rows) in enumerate(A[1]):
        for row in rows:
            for place, y in enumerate(row):
                if y == x:
                    others = [row[k] for k in range(len(row)) if k != place]
                    triples.append((t, place, tuple(colours[z] for z in others)))
    return (colours[x], tuple(sorted(triples)))


def plain_colours(A, B, k):
    """The colours of the round `k`."""
    one, two = (0,) * A[0], (0,) * B[0]
    for _ in range(k):
        first = [plain_signature(A, one, x) for x in range(A[0])]
        second = [plain_signature(B, two, x) for x in range(B[0])]
        unlike = sorted(set(first + second))
        one = tuple(unlike.index(told) for told in first)
        two = tuple(unlike.index(told) for told in second)
    return one, two


def plain_even(A, B, value):
    """Point 6.5, with the fractions of Python."""
    n = A[0]
    if n != B[0] or not (plain_tuple(value) and len(value) == n):
        return False
    for row in value:
        if not (plain_tuple(row) and len(row) == n):
            return False
        for a in row:
            if not (plain_tuple(a) and len(a) == 2 and plain_integer(a[0]) and plain_integer(a[1]) and a[1] > 0):
                return False
            if (Fraction(*a).numerator, Fraction(*a).denominator) != a or not 0 <= Fraction(*a) <= 1:
                return False
    X = [[Fraction(*a) for a in row] for row in value]
    points = range(n)
    if any(sum(row) != 1 for row in X) or any(sum(X[x][y] for x in points) != 1 for y in points):
        return False
    for (arity, rows), (_, others) in zip(A[1], B[1]):
        for x in points:
            for y in points:
                if arity == 1 and ((x,) in rows) != ((y,) in others) and X[x][y] != 0:
                    return False
                if arity == 2:
                    if sum(X[z][y] for z in points if (x, z) in rows) != sum(X[x][z] for z in points if (z, y) in others):
                        return False
                    if sum(X[z][y] for z in points if (z, x) in rows) != sum(X[x][z] for z in points if (y, z) in others):
                        return False
    return True
