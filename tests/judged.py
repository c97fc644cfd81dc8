"""Plain judges for the tests, told straight from the words of chapter 16; nothing here uses the program."""

import itertools
from fractions import Fraction

from brute import (
    hom, plain_ascending, plain_colours, plain_cutting, plain_even, plain_integer, plain_is_map, plain_keeps,
    plain_maps, plain_point, plain_refutation, plain_signature, plain_strand, plain_structure, plain_supported,
    plain_tree, plain_tuple)
from plain import (
    plain_bag_tree, plain_layers, plain_letter, plain_letters, plain_pair_colouring, plain_thicket, plain_thicket_order,
    plain_turned, plain_word_number, reach)


def kind(A):
    return tuple(arity for arity, _ in A[1])


def is_paper(paper, size):
    return plain_tuple(paper) and len(paper) == size and isinstance(paper[0], str)


def plain_set(value, n):
    """An ascending tuple of unlike points."""
    return plain_tuple(value) and all(plain_point(x, n) for x in value) and plain_ascending(value)


def tree_numbers(tree, A, i=None):
    """The numbers of the maps of the tree of a row, with the root at each point."""
    made = []
    for row in tree:
        column = []
        for x in range(A[0]):
            number = 1
            for t, place, sons, times in row:
                total = 0
                for fact in A[1][t][1]:
                    if fact[place] == x:
                        product = 1
                        for j, y in zip(sons, fact[:place] + fact[place + 1:]):
                            product *= made[j][y]
                        total += product
                number *= total ** times
            column.append(number)
        made.append(column)
    return made[-1]


def strand_numbers(strand, A):
    """The sum of the numbers of the last row at all pairs of points."""
    points = range(A[0])
    made = []
    for row in strand:
        if row[0] == "all":
            M = {(x, y): 1 for x in points for y in points}
        elif row[0] == "same":
            M = {(x, y): int(x == y) for x in points for y in points}
        elif row[0] == "fact":
            facts = A[1][row[1]][1]
            M = {(x, y): int(tuple((x, y)[k] for k in row[2]) in facts) for x in points for y in points}
        elif row[0] == "turn":
            M = {(x, y): made[row[1]][y, x] for x in points for y in points}
        elif row[0] == "both":
            M = {xy: made[row[1]][xy] * made[row[2]][xy] for xy in made[row[1]]}
        else:
            one, two = made[row[1]], made[row[2]]
            M = {(x, y): sum(one[x, z] * two[z, y] for z in points) for x in points for y in points}
        made.append(M)
    return sum(made[-1].values())


def lists_holds(A, B, paper):
    """Point 16.2."""
    if not is_paper(paper, 2):
        return False
    word, told = paper
    if word == "lists":
        if not (plain_tuple(told) and len(told) == A[0] and all(plain_set(row, B[0]) and row for row in told)):
            return False
        return all(plain_supported(A, B, told, a, b) for a in range(A[0]) for b in told[a])
    if word == "tree" and plain_tree(told, kind(A)):
        return any(tree_numbers(told, A)) and not any(tree_numbers(told, B))
    return False


def plain_strategy(A, B, value):
    """Point 4.2."""
    points = range(A[0])
    if not (plain_tuple(value) and len(value) == A[0]):
        return False
    for line in value:
        if not (plain_tuple(line) and len(line) == A[0]):
            return False
        for pairs in line:
            if not (plain_tuple(pairs) and all(plain_tuple(pair) and len(pair) == 2 for pair in pairs)):
                return False
            if not all(plain_point(b, B[0]) for pair in pairs for b in pair) or not plain_ascending(pairs):
                return False
    for a in points:
        for e in points:
            for b, d in value[a][e]:
                if not plain_keeps(A, B, a, e, b, d) or (d, b) not in value[e][a]:
                    return False
                for c in points:
                    if not any((b, z) in value[a][c] and (z, d) in value[c][e] for z in range(B[0])):
                        return False
    return True


def strategy_holds(A, B, paper):
    """Point 16.3."""
    if not is_paper(paper, 2):
        return False
    word, told = paper
    if word == "strategy":
        return plain_strategy(A, B, told) and all(pairs for line in told for pairs in line)
    if word == "strand" and plain_strand(told, kind(A)):
        return strand_numbers(told, A) > 0 and strand_numbers(told, B) == 0
    return False


def plain_modulus(value):
    return plain_integer(value) and value >= 2


def colours_holds(A, B, paper):
    """Point 16.4."""
    if is_paper(paper, 2):
        return paper[0] == "even" and 3 not in kind(A) and plain_even(A, B, paper[1])
    if not is_paper(paper, 3):
        return False
    word, one, two = paper
    if word == "classes":
        for C, row in ((A, one), (B, two)):
            if not (plain_tuple(row) and len(row) == C[0] and all(plain_integer(c) and c >= 0 for c in row)):
                return False
        told = [plain_signature(A, one, x) for x in range(A[0])] + [plain_signature(B, two, x) for x in range(B[0])]
        return sorted(one) == sorted(two) and len(set(told)) == len({c for c, _ in told})
    if word == "trees" and plain_tree(one, kind(A)) and plain_modulus(two):
        return (sum(tree_numbers(one, A)) - sum(tree_numbers(one, B))) % two != 0
    return False


def pairs_holds(A, B, paper):
    """Point 16.5."""
    if is_paper(paper, 2):
        return paper[0] == "pairs" and plain_pair_colouring(A, B, paper[1])
    if is_paper(paper, 3) and paper[0] == "strands" and plain_strand(paper[1], kind(A)) and plain_modulus(paper[2]):
        return (strand_numbers(paper[1], A) - strand_numbers(paper[1], B)) % paper[2] != 0
    return False


def plain_map(f, A, B):
    return plain_tuple(f) and len(f) == A[0] and all(plain_point(v, B[0]) for v in f) and plain_is_map(f, A, B)


def search_holds(A, B, paper):
    """Point 16.6."""
    if not is_paper(paper, 2):
        return False
    word, told = paper
    if word == "map":
        return plain_map(told, A, B)
    if word == "refuted":
        return plain_refutation(A, B, told) == ()
    plane = plain_cutting(A, B, told) if word == "cut" else None
    return plane is not None and plane[0] == () and plane[1] > 0


def plain_word(value, A):
    letters = plain_letters(kind(A))
    if not plain_tuple(value):
        return False
    return all(plain_tuple(letter) and len(letter) == 2 and all(plain_integer(k) for k in letter) and letter in letters
               for letter in value)


def words_holds(A, B, paper):
    """Point 16.7."""
    if not is_paper(paper, 2):
        return False
    word, told = paper
    if word == "word" and plain_word(told, A) and len(told) <= 2000:
        return plain_word_number(A, told) != 0 and plain_word_number(B, told) == 0
    if word != "within" or not plain_tuple(told):
        return False
    for row in told:
        if not (plain_tuple(row) and len(row) == 2 and plain_point(row[0], A[0]) and plain_set(row[1], B[0]) and row[1]):
            return False
    if not plain_ascending(told) or {x for x, _ in told} != set(range(A[0])):
        return False
    for x, S in told:
        for letter in plain_letters(kind(A)):
            M, N = plain_letter(A, letter), plain_letter(B, letter)
            led = {v for u in S for v in range(B[0]) if N[u][v]}
            for y in range(A[0]):
                if M[x][y] and not any(z == y and set(T) <= led for z, T in told):
                    return False
    return True


def plain_ratio(a):
    if not (plain_tuple(a) and len(a) == 2 and all(plain_integer(k) for k in a) and a[1] > 0):
        return False
    return (Fraction(*a).numerator, Fraction(*a).denominator) == a


def paths_holds(A, B, paper):
    """The first half of point 16.8."""
    if not is_paper(paper, 2):
        return False
    word, told = paper
    if word == "word" and plain_word(told, A) and len(told) <= 200:
        return plain_word_number(A, told) != plain_word_number(B, told)
    if word != "matrix" or not (plain_tuple(told) and len(told) == A[0]):
        return False
    if not all(plain_tuple(row) and len(row) == B[0] and all(plain_ratio(a) for a in row) for row in told):
        return False
    X = [[Fraction(*a) for a in row] for row in told]
    one, two = range(A[0]), range(B[0])
    if any(sum(row) != 1 for row in X) or any(sum(X[x][y] for x in one) != 1 for y in two):
        return False
    for letter in plain_letters(kind(A)):
        M, N = plain_letter(A, letter), plain_letter(B, letter)
        for x in one:
            for y in two:
                if sum(M[x][z] * X[z][y] for z in one) != sum(X[x][z] * N[z][y] for z in two):
                    return False
    return True


def plain_traces(A, most):
    """The numbers of closed walks of the lengths 1 to `most`."""
    n = A[0]
    M = [[int((x, y) in A[1][0][1]) for y in range(n)] for x in range(n)]
    P, traces = M, []
    for _ in range(most):
        traces.append(sum(P[x][x] for x in range(n)))
        P = [[sum(P[x][z] * M[z][y] for z in range(n)) for y in range(n)] for x in range(n)]
    return traces


def cycles_holds(A, B, paper):
    """The other half of point 16.8."""
    if not is_paper(paper, 2):
        return False
    word, told = paper
    if word == "cycle" and plain_integer(told) and 1 <= told <= 60:
        return plain_traces(A, told)[-1] != plain_traces(B, told)[-1]
    n = max(A[0], B[0])
    if word != "alike" or not (plain_tuple(told) and len(told) == n + 1 and all(plain_integer(c) for c in told)):
        return False
    for C in (A, B):
        t = plain_traces(C, n)
        if told[0] != 1 or any(k * told[k] != -sum(told[j] * t[k - 1 - j] for j in range(k)) for k in range(1, n + 1)):
            return False
    return True


def with_fixed(A, points):
    return (A[0], A[1] + tuple((1, ((x,),)) for x in points))


def unlike_colours(A, B, fixed):
    one, two = plain_colours(with_fixed(A, fixed[0]), with_fixed(B, fixed[1]), A[0] + B[0])
    return sorted(one) != sorted(two)


def plain_parting(A, B, rows):
    """True for a parting of point 9.7."""
    if not (plain_tuple(rows) and rows):
        return False
    for k, row in enumerate(rows):
        if not (plain_tuple(row) and len(row) == 2 and all(plain_tuple(part) for part in row) and len(row[0]) == 2):
            return False
        (one, two), reason = row
        for C, points in ((A, one), (B, two)):
            if not (plain_tuple(points) and all(plain_point(x, C[0]) for x in points) and len(set(points)) == len(points)):
                return False
        if len(one) != len(two):
            return False
        if reason == ("colours",):
            if not unlike_colours(A, B, row[0]):
                return False
            continue
        if not (len(reason) == 3 and reason[0] == "cases" and plain_point(reason[1], A[0]) and reason[1] not in one):
            return False
        x, js = reason[1:]
        left = [y for y in range(B[0]) if y not in two]
        if not (plain_tuple(js) and len(js) == len(left) and all(plain_point(j, k) for j in js)):
            return False
        if any(rows[j][0] != (one + (x,), two + (y,)) for j, y in zip(js, left)):
            return False
    return True


def sameness_holds(A, B, paper):
    """Point 16.9."""
    if not is_paper(paper, 2):
        return False
    word, told = paper
    if word == "turned":
        right = plain_tuple(told) and len(told) == A[0] == B[0] and all(plain_point(x, A[0]) for x in told)
        return right and len(set(told)) == A[0] and plain_turned(A, told) == B
    if word == "apart":
        return plain_parting(A, B, told) and told[-1][0] == ((), ())
    if word != "numbers" or not plain_structure(told) or kind(told) != kind(A):
        return False
    if A[0] ** told[0] > 5000 or B[0] ** told[0] > 5000:
        return False
    return hom(told, A) != hom(told, B)


def plain_choice(lists, value):
    return plain_tuple(value) and len(value) == len(lists) and all(plain_integer(v) and v in row for v, row in zip(value, lists))


def plain_hall(lists, value):
    return plain_set(value, len(lists)) and len(reach(lists, value)) < len(value)


def choice_holds(lists, m, paper):
    """The first part of point 16.10."""
    if not is_paper(paper, 2):
        return False
    word, told = paper
    if word == "choice":
        return plain_choice(lists, told) and len(set(told)) == len(told)
    return word == "hall" and plain_hall(lists, told)


def kept_holds(lists, m, x, v, paper):
    """The second part."""
    if not is_paper(paper, 2):
        return False
    word, told = paper
    if word == "tight":
        right = plain_set(told, len(lists)) and x not in told
        return right and v in reach(lists, told) and len(reach(lists, told)) == len(told)
    return choice_holds(lists, m, paper) and (word == "hall" or told[x] == v)


def bounds_holds(lists, m, bounds, paper):
    """The last part."""
    if not is_paper(paper, 2):
        return False
    word, told = paper
    if word == "choice":
        return plain_choice(lists, told) and all(low <= told.count(v) <= high for v, (low, high) in enumerate(bounds))
    if word == "high":
        return plain_set(told, len(lists)) and sum(bounds[v][1] for v in reach(lists, told)) < len(told)
    if word == "low" and plain_set(told, m):
        return sum(bounds[v][0] for v in told) > sum(bool(set(row) & set(told)) for row in lists)
    return False


def plain_restricted(A, points):
    places = {x: k for k, x in enumerate(points)}
    tables = []
    for arity, rows in A[1]:
        tables.append((arity, tuple(tuple(places[x] for x in row) for row in rows if set(row) <= set(points))))
    return (len(points), tuple(tables))


def core_holds(A, paper):
    """Point 16.11."""
    if not is_paper(paper, 4) or paper[0] != "core":
        return False
    _, points, f, bars = paper
    if not (plain_set(points, A[0]) and plain_map(f, A, plain_restricted(A, points))):
        return False
    if not (plain_tuple(bars) and len(bars) == len(points)):
        return False
    for x, bar in zip(points, bars):
        fewer = tuple(y for y in points if y != x)
        if not search_holds(plain_restricted(A, points), plain_restricted(A, fewer), bar) or bar[0] == "map":
            return False
    return True


def tree_width(tree):
    return max(len(bag) for bag in tree[0]) - 1


def width_holds(A, paper):
    """Point 16.12."""
    if not is_paper(paper, 4) or paper[0] != "width":
        return False
    _, k, tree, thicket = paper
    if not (plain_integer(k) and plain_bag_tree(A, tree) and plain_thicket(A, thicket)):
        return False
    return tree_width(tree) == k and plain_thicket_order(A, thicket) == k + 1


def within_holds(A, k, paper):
    """The other half of point 16.12."""
    if not is_paper(paper, 2):
        return False
    word, told = paper
    if word == "within":
        return plain_bag_tree(A, told) and tree_width(told) <= k
    return word == "above" and plain_thicket(A, told) and plain_thicket_order(A, told) > k + 1


def plain_states(A, B, tree):
    """The states of all bags and their numbers above 0, told from the maps of what hangs below each bag."""
    bags, parents = tree
    sons = [[j for j in range(len(bags)) if parents[j] == k] for k in range(len(bags))]

    def number(k, state):
        held = dict(zip(bags[k], state))
        product = 1
        for j in sons[k]:
            total = 0
            for other in states(j):
                if all(held.get(x, v) == v for x, v in zip(bags[j], other)):
                    total += number(j, other)
            product *= total
        return product

    def states(k):
        found = []
        for state in itertools.product(range(B[0]), repeat=len(bags[k])):
            held = dict(zip(bags[k], state))
            if all(tuple(held[x] for x in row) in others for (_, rows), (_, others) in zip(A[1], B[1])
                   for row in rows if set(row) <= set(held)):
                found.append(state)
        return found
    return tuple(tuple((state, number(k, state)) for state in states(k) if number(k, state) > 0)
                 for k in range(len(bags)))


def number_holds(A, B, paper):
    """The first half of point 16.13."""
    if not is_paper(paper, 4) or paper[0] != "number":
        return False
    _, c, tree, states = paper
    if not plain_bag_tree(A, tree) or B[0] ** (tree_width(tree) + 1) > 200000:
        return False
    return repr((c, states)) == repr((hom(A, B), plain_states(A, B, tree)))


def layers_holds(A, B, order, paper):
    """The other half of point 16.13."""
    if not is_paper(paper, 2) or paper[0] != "layers":
        return False
    return repr(paper[1]) == repr(plain_layers(A[0], B[0], plain_maps(A, B), order))


ODD = (None, True, False, "a", "map", 0, 1, 2, 3, -1, 10 ** 60, -10 ** 60, (), (0,), ((),), [], [0], ("map", ()))


def spoilt(rng, value):
    """The value with one thing changed, at some place, however deep it stands."""
    if not isinstance(value, tuple) or not value or rng.random() < 0.08:
        if plain_integer(value) and rng.random() < 0.7:
            return value + rng.choice((-2, -1, 1, 2))
        return rng.choice(ODD)
    items = list(value)
    k = rng.randrange(len(items))
    way = rng.random()
    if way < 0.6:
        items[k] = spoilt(rng, items[k])
    elif way < 0.7:
        del items[k]
    elif way < 0.8:
        items.insert(k, items[k])
    elif way < 0.9:
        j = rng.randrange(len(items))
        items[k], items[j] = items[j], items[k]
    elif way < 0.93:
        items = items[::-1]
    elif way < 0.96:
        return items
    else:
        items[k] = items[rng.randrange(len(items))]
    return tuple(items)
