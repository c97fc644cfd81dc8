"""Refinement of colours, the trees that tell them, and even matrices (chapter 6)."""

from probeweb.errors import Malformed, Refused
from probeweb.structures import arities_of, check_alike, check_both_binary, check_structure, greatest_table
from probeweb.whole import is_number_from, is_ratio, least_common, ratio

MOST_POINTS_REFINED = 40
MOST_FACTS = 400
MOST_ROUNDS = 80
PRIME = 1000003


def _check_sizes(A, B):
    if A[0] > MOST_POINTS_REFINED or B[0] > MOST_POINTS_REFINED:
        raise Refused("large")
    if greatest_table(A) > MOST_FACTS or greatest_table(B) > MOST_FACTS:
        raise Refused("large")


def check_refined_pair(A, B):
    """The errors of functions of two structures of this chapter."""
    check_alike(A, B)
    _check_sizes(A, B)


def _without_points(A):
    """The structure without points of the kind of `A`."""
    return 0, tuple([(arity, ()) for arity in arities_of(A)])


def signatures_of(A, colours):
    """The signatures of the points of `A` under a colouring."""
    triples = [[] for _ in range(A[0])]
    for t, (arity, rows) in enumerate(A[1]):
        for row in rows:
            told = tuple([colours[x] for x in row])
            for place in range(arity):
                triples[row[place]].append((t, place, told[:place] + told[place + 1:]))
    return [(colours[x], tuple(sorted(triples[x]))) for x in range(A[0])]


def _numbered(signatures):
    """The numbers of the items in the order of the unlike ones."""
    unlike = {}
    for signature in sorted(signatures):
        if signature not in unlike:
            unlike[signature] = len(unlike)
    return [unlike[signature] for signature in signatures]


def _next_round(A, B, one, two):
    colours = _numbered(signatures_of(A, one) + signatures_of(B, two))
    return tuple(colours[:A[0]]), tuple(colours[A[0]:])


def _refined(A, B, most):
    """The colours of the round `most`, or of the stable one if that comes first."""
    one = (0,) * A[0]
    two = (0,) * B[0]
    for _ in range(most):
        further = _next_round(A, B, one, two)
        # With equally many colours the next rounds have the very same numbers.
        if further == (one, two):
            break
        one, two = further
    return one, two


def colour_round(A, B, k):
    """The pair of the rows of colours of the round `k`."""
    check_alike(A, B)
    if not (is_number_from(k, 0) and k <= MOST_ROUNDS):
        raise Malformed("no number of a round")
    _check_sizes(A, B)
    return _refined(A, B, k)


def refined_colours(A, B):
    """The pair of the rows of stable colours, for any number of tables and without a check."""
    # Each round but the last one parts a colour.
    return _refined(A, B, A[0] + B[0])


def joint_colouring(A, B):
    """The pair of the rows of stable colours."""
    check_refined_pair(A, B)
    return refined_colours(A, B)


def stable_colouring(A):
    """The row of stable colours of `A` alone."""
    check_structure(A)
    return joint_colouring(A, _without_points(A))[0]


def same_colours(A, B):
    """True if each stable colour occurs equally often in both structures."""
    one, two = joint_colouring(A, B)
    return sorted(one) == sorted(two)


def class_numbers(A):
    """The tuples of a class, a table, a place, the classes at the others, and the number of such facts."""
    colours = stable_colouring(A)
    found = {}
    for colour, triples in signatures_of(A, colours):
        counts = {}
        for triple in triples:
            counts[triple] = counts.get(triple, 0) + 1
        found.update({(colour,) + triple + (counts[triple],): True for triple in counts})
    return tuple(sorted(found))


class RowSpace:
    """Rows of trees whose numbers, modulo the prime, span all functions on some classes of points.

    A column has the numbers of a row at the points of `A` and behind them
    those at the points of `B`.
    """

    def __init__(self, A, B):
        self.border = A[0]
        self.size = A[0] + B[0]
        self.facts = []
        for (_, rows), (_, others) in zip(A[1], B[1]):
            self.facts.append(rows + tuple([tuple([x + A[0] for x in row]) for row in others]))
        self.rows = []
        self.columns = []
        self.reduced = []
        self.parts = [0] * self.size

    def is_apart(self):
        """True if the last row has unlike numbers of maps into both structures."""
        column = self.columns[-1]
        return (sum(column[:self.border]) - sum(column[self.border:])) % PRIME != 0

    def _rest(self, column):
        """The column less multiples of the reduced ones, 0 at their heads."""
        for head, line in self.reduced:
            factor = column[head]
            if factor != 0:
                column = [(a - factor * b) % PRIME for a, b in zip(column, line)]
        return column

    def take(self, row, column):
        """Keeps the row, if its column is no sum of multiples of those that are kept; True if so."""
        rest = self._rest(column)
        if not any(rest):
            return False
        head = [k for k in range(self.size) if rest[k] != 0][0]
        inverse = _inverse(rest[head])
        self.reduced.append((head, [a * inverse % PRIME for a in rest]))
        self.rows.append(row)
        self.columns.append(column)
        return True

    def branch_column(self, t, place, sons):
        """The numbers of a row with this one branch."""
        column = [0] * self.size
        for row in self.facts[t]:
            number = 1
            for j, y in zip(sons, row[:place] + row[place + 1:]):
                number = number * self.columns[j][y] % PRIME
            column[row[place]] = (column[row[place]] + number) % PRIME
        return column

    def parts_with(self, column):
        """The classes, made smaller by the values of a column, numbered from 0 on."""
        return _numbered([(part, told) for part, told in zip(self.parts, column)])

    def multiply(self, branch, column):
        """Puts to the rows all their products with powers of the branch, until one tells both apart."""
        at = 0
        while at < len(self.rows):
            row = {old: times for old, times in self.rows[at].items()}
            row[branch] = row.get(branch, 0) + 1
            product_column = [a * b % PRIME for a, b in zip(self.columns[at], column)]
            at += 1
            if self.take(row, product_column) and self.is_apart():
                return True
        return False

    def tree(self):
        """The tree of the last row, each row a tuple of its branches."""
        return tuple([tuple([branch + (times,) for branch, times in row.items()]) for row in self.rows])


def _inverse(a):
    """The inverse of a number modulo the prime, by the steps of Euclid."""
    old, rest = PRIME, a % PRIME
    before, factor = 0, 1
    while rest > 1:
        quotient = old // rest
        old, rest = rest, old - quotient * rest
        before, factor = factor, before - quotient * factor
    return factor % PRIME


def _branches_with(A, last):
    """The branches, without their times, with the row `last` among the sons and else earlier rows."""
    found = []
    for t, (arity, _) in enumerate(A[1]):
        if arity == 1 and last == 0:
            sons = [()]
        elif arity == 2:
            sons = [(last,)]
        elif arity == 3:
            sons = [(j, last) for j in range(last)] + [(last, j) for j in range(last + 1)]
        else:
            sons = []
        found.extend([(t, place, told) for place in range(arity) for told in sons])
    return found


def _tell_apart(rows, A):
    """Adds rows until the last one tells both structures apart, as point 6.4 says that one does."""
    rows.take({}, [1] * rows.size)
    last = 0
    while not rows.is_apart():
        for branch in _branches_with(A, last):
            column = rows.branch_column(branch[0], branch[1], branch[2])
            parts = rows.parts_with(column)
            # A column that is the same on each class is among the sums of the rows.
            if parts != rows.parts:
                rows.parts = parts
                if rows.multiply(branch, column):
                    return
        last += 1


def tree_apart(A, B):
    """A tree and a prime modulo which its numbers of maps into `A` and `B` are unlike, or None."""
    check_refined_pair(A, B)
    if same_colours(A, B):
        return None
    rows = RowSpace(A, B)
    _tell_apart(rows, A)
    return rows.tree(), PRIME


def _check_binary_pair(A, B):
    check_both_binary(A, B)
    _check_sizes(A, B)


def even_matrix(A, B):
    """The even matrix that is told by the classes, or None if the colours are not the same."""
    _check_binary_pair(A, B)
    one, two = refined_colours(A, B)
    if sorted(one) != sorted(two):
        return None
    counts = {}
    for colour in one:
        counts[colour] = counts.get(colour, 0) + 1
    return tuple([tuple([ratio(1, counts[c]) if c == d else (0, 1) for d in two]) for c in one])


def is_ratio_matrix(value, n, m):
    """True for a tuple of `n` tuples of `m` fractions."""
    if not (isinstance(value, tuple) and len(value) == n):
        return False
    for row in value:
        if not (isinstance(row, tuple) and len(row) == m and all([is_ratio(a) for a in row])):
            return False
    return True


def _whole_items(value):
    """The items multiplied by a common denominator, and this one."""
    common = 1
    for row in value:
        for a in row:
            common = least_common(common, a[1])
    return [[told[0] * (common // told[1]) for told in line] for line in value], common


def _keeps_points(rows, others, items, m):
    """True if all is 0 between points of which one alone is in a table of the arity 1."""
    one = {row[0]: True for row in rows}
    two = {row[0]: True for row in others}
    return all([(x in one) == (y in two) or line[y] == 0 for x, line in enumerate(items) for y in range(m)])


def _keeps_facts(rows, others, items, m):
    """True if the matrix of the rows times the items is the items times the matrix of the others."""
    less = [[0] * m for _ in items]
    for x, z in rows:
        less[x] = [a + b for a, b in zip(less[x], items[z])]
    for z, y in others:
        for x, told in enumerate(items):
            less[x][y] -= told[z]
    return not any([any(line) for line in less])


def _turned(rows):
    return [(y, x) for x, y in rows]


def joins_letters(A, B, value):
    """True if the rows and columns of a matrix of fractions have the sum 1, and it goes with all letters.

    That is, for each letter (point 8.2) its matrix in `A` times this one is
    this one times its matrix in `B`. The structures are binary.
    """
    items, common = _whole_items(value)
    columns = [[row[y] for row in items] for y in range(B[0])]
    if any([sum(line) != common for line in items + columns]):
        return False
    for (arity, rows), (_, others) in zip(A[1], B[1]):
        if arity == 1 and not _keeps_points(rows, others, items, B[0]):
            return False
        if arity == 2 and not (_keeps_facts(rows, others, items, B[0])
                               and _keeps_facts(_turned(rows), _turned(others), items, B[0])):
            return False
    return True


def is_even_matrix(A, B, value):
    """True if the value is an even matrix for `A` and `B`, for every value."""
    _check_binary_pair(A, B)
    if A[0] != B[0] or not is_ratio_matrix(value, A[0], A[0]):
        return False
    return all([0 <= a[0] <= a[1] for row in value for a in row]) and joins_letters(A, B, value)
