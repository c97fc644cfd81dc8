"""Colours of pairs, and the strands that tell them (chapter 7).

A table of colours is a tuple with one tuple for each point `x`, which has
one colour for each point `y`.
"""

from probeweb.errors import Malformed, Refused
from probeweb.structures import check_both_binary, is_pair, kind_of
from probeweb.whole import is_integer, is_number_from, rest_of_power

MOST_POINTS_PAIRED = 16
MOST_ROUNDS = 256
# Two structures have at most so many pairs, and each round but the last one parts some colour.
ALL_ROUNDS = 512
PRIME = 1000003


def _check_sizes(A, B):
    if A[0] > MOST_POINTS_PAIRED or B[0] > MOST_POINTS_PAIRED:
        raise Refused("large")


def check_paired(A, B):
    """The errors of functions of two structures of this chapter."""
    check_both_binary(A, B)
    _check_sizes(A, B)


def _kind_rows(A):
    """For each pair of points its kind."""
    tables = [(arity, {row: True for row in rows}) for arity, rows in A[1]]
    return [[_pair_kind(tables, x, y) for y in range(A[0])] for x in range(A[0])]


def _pair_kind(tables, x, y):
    kind = [1 if x == y else 0]
    for arity, facts in tables:
        spots = ((x,), (y,)) if arity == 1 else ((x, y), (y, x), (x, x), (y, y))
        kind.extend([1 if spot in facts else 0 for spot in spots])
    return tuple(kind)


def numbered_tables(one, two):
    """Both tables with the number of each item in the order of all unlike items."""
    items = sorted([item for table in (one, two) for line in table for item in line])
    numbers = {}
    for item in items:
        if item not in numbers:
            numbers[item] = len(numbers)
    made = [tuple([tuple([numbers[told] for told in row]) for row in rows]) for rows in (one, two)]
    return made[0], made[1]


def _signatures(table):
    """For each pair its colour and the pairs of colours by way of each point."""
    points = range(len(table))
    columns = [[line[y] for line in table] for y in points]
    return [[(table[x][y], tuple(sorted(zip(table[x], columns[y])))) for y in points] for x in points]


def refined_tables(one, two, most):
    """The colours so many rounds after the told ones, or the stable ones if they come first."""
    for _ in range(most):
        further = numbered_tables(_signatures(one), _signatures(two))
        # With equally many colours the next rounds have the very same numbers.
        if further == (one, two):
            break
        one, two = further
    return one, two


def _first_tables(A, B):
    return numbered_tables(_kind_rows(A), _kind_rows(B))


def pair_round(A, B, k):
    """The pair of the tables of colours of the round `k`."""
    check_both_binary(A, B)
    if not (is_number_from(k, 0) and k <= MOST_ROUNDS):
        raise Malformed("no number of a round")
    _check_sizes(A, B)
    one, two = _first_tables(A, B)
    return refined_tables(one, two, k)


def joint_pairs(A, B):
    """The pair of the tables of stable colours."""
    check_paired(A, B)
    one, two = _first_tables(A, B)
    return refined_tables(one, two, ALL_ROUNDS)


def pair_colouring(A):
    """The table of the stable colours of `A` alone."""
    return joint_pairs(A, (0, tuple([(arity, ()) for arity in kind_of(A)])))[0]


def all_items(table):
    """The items of a table, ascending."""
    return sorted([item for line in table for item in line])


def same_pairs(A, B):
    """True if each stable colour occurs equally often among the pairs of both."""
    one, two = joint_pairs(A, B)
    return all_items(one) == all_items(two)


def pair_numbers(A):
    """The tuples of three colours and the number of points that lead a pair of the first by way of the others."""
    found = {}
    for line in _signatures(pair_colouring(A)):
        for colour, ways in line:
            counts = {}
            for way in ways:
                counts[way] = counts.get(way, 0) + 1
            found.update({(colour,) + way + (counts[way],): True for way in counts})
    return tuple(sorted(found))


def _is_table(value, n):
    """True for a tuple of `n` tuples of `n` integers."""
    if not (isinstance(value, tuple) and len(value) == n):
        return False
    for line in value:
        if not (isinstance(line, tuple) and len(line) == n and all([is_integer(colour) for colour in line])):
            return False
    return True


def is_pair_colouring(A, B, value):
    """True if the value tells colours with which `A` and `B` have the same pairs, for every value."""
    check_paired(A, B)
    if not (is_pair(value) and _is_table(value[0], A[0]) and _is_table(value[1], B[0])):
        return False
    if all_items(value[0]) != all_items(value[1]):
        return False
    told = {}
    for table, kinds in ((value[0], _kind_rows(A)), (value[1], _kind_rows(B))):
        for line, row in zip(_signatures(table), kinds):
            for signature, kind in zip(line, row):
                if told.setdefault(signature[0], (kind, signature)) != (kind, signature):
                    return False
    return True


def _classes_with(column, classes):
    """The classes, made smaller by a column, numbered in the order in which they come."""
    numbers = {}
    return [numbers.setdefault(key, len(numbers)) for key in zip(column, classes)]


def _powers(weights, columns):
    """Exponents, one for each column, with which the sum of weights times powers is not 0.

    All is reckoned modulo the prime. There are such exponents if the columns
    together part the places into classes of which one has not the weight 0:
    the powers of one column from 0 on tell the sums over its values apart.
    """
    classes = [[0] * len(weights)]
    for column in reversed(columns):
        classes.append(_classes_with(column, classes[-1]))
    exponents = []
    for k, column in enumerate(columns):
        behind = classes[len(columns) - 1 - k]
        exponent = 0
        while not _has_weight(weights, behind):
            exponent += 1
            weights = [a * b % PRIME for a, b in zip(weights, column)]
        exponents.append(exponent)
    return exponents


def _has_weight(weights, classes):
    """True if the weights of some class do not add up to 0."""
    sums = {}
    for weight, part in zip(weights, classes):
        sums[part] = (sums.get(part, 0) + weight) % PRIME
    return any(sums.values())


class StrandMaker:
    """Rows of a strand whose numbers, modulo the prime, part the pairs of points of both structures.

    A column has the numbers of a row at the pairs of the first structure,
    and behind them those of the second one. `signs` tells, in the same
    order, which pairs count, and how, where both structures are compared.
    """

    def __init__(self, A, B):
        self.sizes = (A[0], B[0])
        self.signs = [1] * (A[0] * A[0]) + [-1] * (B[0] * B[0])
        self.rows = []
        self.numbers = {}
        self.parting = []
        self.classes = [0] * len(self.signs)
        self.take_column(("same",), [1 if x == y else 0 for n in self.sizes for x in range(n) for y in range(n)])
        for t, (arity, _) in enumerate(A[1]):
            for places in (((0,), (1,)) if arity == 1 else ((0, 1), (1, 0), (0, 0), (1, 1))):
                facts = [{row: True for row in told[1][t][1]} for told in (A, B)]
                self.take_column(("fact", t, places), _fact_column(self.sizes, facts, places))

    def row_number(self, row):
        """The index of a row, which is put to the rows if it is a new one."""
        if row not in self.numbers:
            self.numbers[row] = len(self.rows)
            self.rows.append(row)
        return self.numbers[row]

    def take_column(self, row, column):
        """Keeps a row for parting, if its column makes classes smaller."""
        number = self.row_number(row)
        parts = _classes_with(self.classes, column)
        if parts != self.classes:
            self.classes = parts
            self.parting.append((number, column))

    def _power(self, number, exponent):
        """The index of a row with so many times the row `number`, joined; from once on."""
        made = -1
        square = number
        while exponent > 0:
            if exponent & 1 == 1:
                made = square if made < 0 else self.row_number(("both", made, square))
            exponent = exponent >> 1
            if exponent > 0:
                square = self.row_number(("both", square, square))
        return made

    def product_row(self, exponents):
        """The index of a row that is the product of these powers of the rows that part."""
        made = -1
        for (number, _), exponent in zip(self.parting, exponents):
            if exponent > 0:
                power = self._power(number, exponent)
                made = power if made < 0 else self.row_number(("both", made, power))
        return self.row_number(("all",)) if made < 0 else made

    def product_column(self, exponents):
        """The numbers of this product."""
        made = [1] * len(self.signs)
        for (_, column), exponent in zip(self.parting, exponents):
            made = [a * rest_of_power(b, exponent, PRIME) % PRIME for a, b in zip(made, column)]
        return made

    def is_apart(self):
        """True if some class has unlike numbers of pairs in both structures."""
        return _has_weight(self.signs, self.classes)

    def tables_of(self, column):
        """A column as two lists of lists."""
        one, two = self.sizes
        border = one * one
        return ([column[x * one:(x + 1) * one] for x in range(one)],
                [column[border + x * two:border + (x + 1) * two] for x in range(two)])

    def unlike_pairs(self):
        """Two pairs of one class with unlike signatures, each as its table and points; None without any."""
        told = {}
        for s, table in enumerate(self.tables_of(self.classes)):
            for x, line in enumerate(_signatures(table)):
                for y, signature in enumerate(line):
                    before = told.setdefault(signature[0], (signature, (s, x, y)))
                    if before[0] != signature:
                        return before[1], (s, x, y)
        return None

    def part_further(self):
        """Keeps one row more, which goes through two products and parts a class; False if none does."""
        unlike = self.unlike_pairs()
        if unlike is None:
            return False
        weights = []
        columns = [[] for _ in self.parting + self.parting]
        tables = [self.tables_of(column) for _, column in self.parting]
        for sign, (s, x, y) in zip((1, -1), unlike):
            weights.extend([sign] * self.sizes[s])
            for k, pair in enumerate(tables):
                columns[k].extend(pair[s][x])
                columns[len(tables) + k].extend([line[y] for line in pair[s]])
        exponents = _powers(weights, columns)
        one, two = exponents[:len(tables)], exponents[len(tables):]
        row = ("through", self.product_row(one), self.product_row(two))
        self.take_column(row, self._through(self.product_column(one), self.product_column(two)))
        return True

    def _through(self, one, two):
        """The numbers of a row that goes through two others."""
        made = []
        for first, second in zip(self.tables_of(one), self.tables_of(two)):
            columns = [[row[y] for row in second] for y in range(len(second))]
            for line in first:
                made.extend([sum([a * b for a, b in zip(line, column)]) % PRIME for column in columns])
        return made

    def strand(self):
        """The strand of a product whose numbers of maps are unlike."""
        exponents = _powers(self.signs, [column for _, column in self.parting])
        return trimmed_strand(self.rows, self.product_row(exponents))


def _fact_column(sizes, facts, places):
    """The column of a row of one fact."""
    column = []
    for size, told in zip(sizes, facts):
        pairs = [(x, y) for x in range(size) for y in range(size)]
        column.extend([1 if tuple([pair[k] for k in places]) in told else 0 for pair in pairs])
    return column


def trimmed_strand(rows, end):
    """The strand of the row `end`, without rows that it is not made of."""
    used = {end: True}
    for i in reversed(range(end + 1)):
        if i in used and rows[i][0] in ("turn", "both", "through"):
            used.update({j: True for j in rows[i][1:]})
    numbers = {i: k for k, i in enumerate(sorted(used))}
    made = []
    for i in sorted(used):
        row = rows[i]
        inner = row[0] in ("turn", "both", "through")
        made.append((row[0],) + tuple([numbers[j] for j in row[1:]]) if inner else row)
    return tuple(made)


def strand_apart(A, B):
    """A strand and a prime modulo which its numbers of maps into `A` and `B` are unlike, or None."""
    if same_pairs(A, B):
        return None
    maker = StrandMaker(A, B)
    parted = True
    while parted and not maker.is_apart():
        parted = maker.part_further()
    return maker.strand(), PRIME
