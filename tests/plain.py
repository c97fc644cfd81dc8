"""More plain answers for the tests, for the chapters 7 to 16; nothing here uses the program."""

import itertools
from fractions import Fraction

from brute import graph, plain_ascending, plain_integer, plain_joined, plain_point, plain_tuple

# Two graphs of 16 points, alike in all pairs, that are not the same up to numbers.
ROOK = graph(16, [(4 * a + b, 4 * c + d) for a, b, c, d in itertools.product(range(4), repeat=4)
                  if (a == c) != (b == d)])
SHRIKHANDE = graph(16, [(4 * a + b, 4 * ((a + x) % 4) + (b + y) % 4) for a, b in itertools.product(range(4), repeat=2)
                        for x, y in ((0, 1), (1, 0), (1, 1))])


def plain_kind(A, x, y):
    """Point 7.1."""
    kind = [int(x == y)]
    for arity, rows in A[1]:
        if arity == 1:
            kind += [int((x,) in rows), int((y,) in rows)]
        else:
            kind += [int(row in rows) for row in ((x, y), (y, x), (x, x), (y, y))]
    return tuple(kind)


def plain_pair_signature(table, x, y):
    return (table[x][y], tuple(sorted((table[x][z], table[z][y]) for z in range(len(table)))))


def plain_pairs(A, B, k):
    """The tables of colours of the round `k` of point 7.2."""
    def numbered(one, two):
        unlike = sorted({told for table in (one, two) for row in table for told in row})
        return tuple(tuple(tuple(unlike.index(told) for told in row) for row in table) for table in (one, two))

    def tables(number):
        made = []
        for s, C in enumerate((A, B)):
            made.append([[number(s, C, x, y) for y in range(C[0])] for x in range(C[0])])
        return numbered(*made)
    told = tables(lambda s, C, x, y: plain_kind(C, x, y))
    for _ in range(k):
        before = told
        told = tables(lambda s, C, x, y: plain_pair_signature(before[s], x, y))
    return told


def plain_stable_pairs(A, B):
    told = plain_pairs(A, B, 0)
    k = 0
    while True:
        k += 1
        further = plain_pairs(A, B, k)
        if colour_count(further) == colour_count(told):
            return told
        told = further


def colour_count(tables):
    return len({told for table in tables for row in table for told in row})


def plain_pair_colouring(A, B, value):
    """The condition of `is_pair_colouring`."""
    if not (plain_tuple(value) and len(value) == 2):
        return False
    for C, table in zip((A, B), value):
        if not (plain_tuple(table) and len(table) == C[0]):
            return False
        for row in table:
            if not (plain_tuple(row) and len(row) == C[0] and all(plain_integer(told) for told in row)):
                return False
    if sorted(told for row in value[0] for told in row) != sorted(told for row in value[1] for told in row):
        return False
    seen = {}
    for C, table in zip((A, B), value):
        for x in range(C[0]):
            for y in range(C[0]):
                counts = {}
                for z in range(C[0]):
                    way = (table[x][z], table[z][y])
                    counts[way] = counts.get(way, 0) + 1
                told = (plain_kind(C, x, y), counts)
                if seen.setdefault(table[x][y], told) != told:
                    return False
    return True


def is_prime(l):
    return l > 1 and all(l % d != 0 for d in range(2, int(l ** 0.5) + 1))


def plain_reduced(rows, width):
    """The reduced matrix of point 8.1 and its heads, with the fractions of Python."""
    rows = [list(row) for row in rows]
    heads = []
    for c in range(width):
        found = [row for row in rows[len(heads):] if row[c] != 0]
        if not found:
            continue
        rows.remove(found[0])
        head = [a / found[0][c] for a in found[0]]
        rows = [[a - row[c] * b for a, b in zip(row, head)] for row in rows]
        rows.insert(len(heads), head)
        heads.append(c)
    return [row for row in rows[:len(heads)]], heads


def as_fractions(rows):
    return [[Fraction(*a) for a in row] for row in rows]


def as_pairs(rows):
    return tuple(tuple((Fraction(a).numerator, Fraction(a).denominator) for a in row) for row in rows)


def plain_determinant(rows):
    """The sum over all orders."""
    total = 0
    for order in itertools.permutations(range(len(rows))):
        swaps = sum(order[i] > order[j] for i in range(len(order)) for j in range(i + 1, len(order)))
        product = -1 if swaps % 2 else 1
        for i, j in enumerate(order):
            product *= rows[i][j]
        total += product
    return total


def plain_letters(kind):
    return [(t, e) for t, arity in enumerate(kind) for e in range(arity)]


def plain_letter(A, letter):
    t, e = letter
    arity, rows = A[1][t]
    n = A[0]
    if arity == 1:
        return [[int(x == y and (x,) in rows) for y in range(n)] for x in range(n)]
    return [[int(((x, y) if e == 0 else (y, x)) in rows) for y in range(n)] for x in range(n)]


def plain_product(one, two):
    return [[sum(row[k] * two[k][j] for k in range(len(two))) for j in range(len(two[0]))] for row in one]


def plain_word_number(A, word):
    column = [1] * A[0]
    for letter in reversed(word):
        column = [sum(a * b for a, b in zip(row, column)) for row in plain_letter(A, letter)]
    return sum(column)


def all_words(letters, most):
    """All words to a length, in their order."""
    for size in range(most + 1):
        yield from itertools.product(letters, repeat=size)


def plain_turned(A, m):
    """`A` renumbered."""
    return (A[0], tuple((arity, tuple(sorted(tuple(m[x] for x in row) for row in rows))) for arity, rows in A[1]))


def shuffled(A, rng):
    """`A` with its points in a random order."""
    m = list(range(A[0]))
    rng.shuffle(m)
    return plain_turned(A, m)


def plain_turnings(A, B):
    if A[0] != B[0]:
        return []
    return [m for m in itertools.permutations(range(A[0])) if plain_turned(A, m) == B]


def plain_keeps(f, n, k, rows):
    """Point 10.2."""
    for choice in itertools.product(rows, repeat=k):
        made = []
        for place in range(len(choice[0])):
            at = 0
            for row in choice:
                at = at * n + row[place]
            made.append(f[at])
        if tuple(made) not in rows:
            return False
    return True


def plain_operations(B, k):
    """All operations of `k` arguments of `B`, ascending."""
    n = B[0]
    found = itertools.product(range(n), repeat=n ** k)
    return [f for f in found if all(plain_keeps(f, n, k, rows) for _, rows in B[1])]


def is_of_kind(f, n, word):
    """Point 10.5."""
    P = range(n)
    if word == "constant":
        return len(set(f)) == 1
    if word == "semilattice":
        def g(x, y):
            return f[x * n + y]
        return (all(g(x, x) == x for x in P) and all(g(x, y) == g(y, x) for x in P for y in P)
                and all(g(x, g(y, z)) == g(g(x, y), z) for x in P for y in P for z in P))

    def h(x, y, z):
        return f[(x * n + y) * n + z]
    if word == "majority":
        return all(h(x, x, y) == h(x, y, x) == h(y, x, x) == x for x in P for y in P)
    if word == "maltsev":
        return all(h(x, y, y) == h(y, y, x) == x for x in P for y in P)
    return all(h(x, x, y) == h(x, y, x) == h(y, x, x) == y for x in P for y in P)


def plain_list_structure(B):
    """Point 11.1."""
    n = B[0]
    tables = []
    for arity, rows in B[1]:
        made = []
        for told in itertools.product(range(1, 2 ** n), repeat=arity):
            lists = [[x for x in range(n) if s >> x & 1] for s in told]
            if all(any(row[i] == a and all(row[j] in lists[j] for j in range(arity)) for row in rows)
                   for i in range(arity) for a in lists[i]):
                made.append(tuple(s - 1 for s in told))
        tables.append((arity, tuple(made)))
    return (2 ** n - 1, tuple(tables))


def plain_bag_tree(A, value):
    """Point 12.1."""
    if not (plain_tuple(value) and len(value) == 2 and plain_tuple(value[0]) and plain_tuple(value[1])):
        return False
    bags, parents = value
    if len(bags) != len(parents) or len(bags) == 0:
        return False
    for bag in bags:
        if not (plain_tuple(bag) and all(plain_point(x, A[0]) for x in bag) and plain_ascending(bag)):
            return False
    for k, parent in enumerate(parents):
        if not plain_integer(parent) or (parent != -1 if k == 0 else not 0 <= parent < k):
            return False
    for x in range(A[0]):
        tops = [k for k, bag in enumerate(bags) if x in bag and (k == 0 or x not in bags[parents[k]])]
        if len(tops) != 1:
            return False
    return all(any(set(row) <= set(bag) for bag in bags) for _, rows in A[1] for row in rows)


def plain_thicket(A, value):
    """Point 12.4."""
    if not plain_tuple(value):
        return False
    near = plain_joined(A)
    for member in value:
        if not (plain_tuple(member) and member and all(plain_point(x, A[0]) for x in member)
                and plain_ascending(member)):
            return False
        met = {member[0]}
        while True:
            more = {y for x in met for y in near[x] if y in member} - met
            if not more:
                break
            met |= more
        if met != set(member):
            return False
    return all(set(one) & set(two) or any(near[x] & set(two) for x in one) for one in value for two in value)


def plain_thicket_order(A, thicket):
    for size in range(A[0] + 1):
        for points in itertools.combinations(range(A[0]), size):
            if all(set(points) & set(member) for member in thicket):
                return size
    return None


def plain_order_tree(A, order):
    """Point 12.2: the tree of an order."""
    if not order:
        return (((),), (-1,))
    near = {x: set(points) for x, points in plain_joined(A).items()}
    bags = {}
    for x in order:
        bags[x] = tuple(sorted(near[x] | {x}))
        for y in near[x]:
            near[y] |= near[x] - {y}
            near[y].discard(x)
        del near[x]
    back = order[::-1]
    parents = []
    for k, x in enumerate(back):
        others = [y for y in order[order.index(x) + 1:] if y in bags[x]]
        parents.append(-1 if k == 0 else back.index(others[0]) if others else 0)
    return (tuple(bags[x] for x in back), tuple(parents))


def plain_width(A):
    """The least width of all orders."""
    return min(max(len(bag) for bag in plain_order_tree(A, order)[0]) - 1
               for order in itertools.permutations(range(A[0])))


def plain_layers(n, m, rows, order):
    """Point 13.2."""
    told = {tuple(row[x] for x in order) for row in rows}
    if not told:
        return (m, order, ((),) * n)

    def behind(start):
        return frozenset(row[len(start):] for row in told if row[:len(start)] == start)
    numbers = []
    for i in range(n + 1):
        found = {}
        for start in sorted({row[:i] for row in told}):
            found.setdefault(behind(start), (len(found), start))
        numbers.append(found)
    layers = []
    for i in range(n):
        layer = []
        for _, start in numbers[i].values():
            layer.append(tuple(
                numbers[i + 1][behind(start + (v,))][0] if behind(start + (v,)) else -1 for v in range(m)))
        layers.append(tuple(layer))
    return (m, order, tuple(layers))


def reach(lists, places):
    return {v for x in places for v in lists[x]}


def choice_rows(lists):
    return list(itertools.product(*lists))


def apart_rows(lists):
    return [row for row in choice_rows(lists) if len(set(row)) == len(row)]


def edge_sets(G):
    edges = [row for row in G[1][0][1] if row[0] < row[1]]
    for size in range(len(edges) + 1):
        yield from itertools.combinations(edges, size)


def parts_of(n, edges):
    """The parting of the points into parts that are linked by the edges, numbered by the least points."""
    name = list(range(n))
    for x, y in edges:
        name = [name[x] if told == name[y] else told for told in name]
    order = sorted(set(name), key=name.index)
    return tuple(order.index(told) for told in name)


def value_at(row, q):
    return sum(a * q ** i for i, a in enumerate(row))
