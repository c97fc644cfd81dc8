"""Templates that are decided by lists, by elimination, or by the ways of the six classes (chapter 11)."""

from probeweb.errors import Malformed, Refused
from probeweb.operations import check_template, keeps_tables
from probeweb.solving import MapSearch
from probeweb.structures import MOST_ROWS, arities_of, is_structure
from probeweb.whole import raised_to

MOST_LISTED = 5
MOST_SOLVED = 40
PRIMES = (2, 3, 5, 7)
# The operations over 0 and 1 that the classes name, with their numbers of arguments.
CLASS_OPERATIONS = {
    "zero": ((0, 0), 1), "one": ((1, 1), 1), "least": ((0, 0, 0, 1), 2), "greatest": ((0, 1, 1, 1), 2),
    "most": ((0, 0, 0, 1, 0, 1, 1, 1), 3), "odd": ((0, 1, 1, 0, 1, 0, 0, 1), 3)}


def _check_instance(A, B):
    """None for a structure `A` of the kind of the template `B`."""
    check_template(B)
    if not is_structure(A) or arities_of(A) != arities_of(B):
        raise Malformed("no structure of the kind of the template")


def _united_rows(rows, most):
    """All rows of lists, as masks, that unite some of the rows place by place; refused beyond `most` of them."""
    found = {}
    for row in rows:
        single = tuple([1 << x for x in row])
        fresh = {tuple([a | b for a, b in zip(told, single)]): True for told in found}
        found.update(fresh)
        found[single] = True
        if most is not None and len(found) > most:
            raise Refused("large")
    return list(found)


def list_structure(B):
    """The structure of lists `U(B)`."""
    check_template(B)
    if B[0] > MOST_LISTED:
        raise Refused("large")
    return lists_of_points(B, MOST_ROWS)


def lists_of_points(B, most):
    """As `list_structure`, without a check; a table with more than `most` rows is refused, unless this is None."""
    tables = []
    for arity, rows in B[1]:
        # A row of lists is in the table if it unites the rows of `B` that it holds.
        made = [tuple([mask - 1 for mask in row]) for row in _united_rows(rows, most)]
        tables.append((arity, tuple(sorted(made))))
    return (1 << B[0]) - 1, tuple(tables)


def list_map(B):
    """The least map of `U(B)` into `B`, or None."""
    return MapSearch(list_structure(B), B).least()


def is_list_decided(B):
    """True if there is a map of `U(B)` into `B`."""
    return list_map(B) is not None


def _inverse(a, p):
    """The inverse of a number modulo a prime to 7."""
    return [b for b in range(1, p) if a * b % p == 1][0]


class Equations:
    """Linear equations modulo a prime, each made into one that is reduced by the others.

    An equation is a list of the factors of the unknowns and, behind them,
    the sum. `lines` has the equation for each head, the one unknown of it
    that no other equation has.
    """

    def __init__(self, prime, unknowns):
        self.prime = prime
        self.unknowns = unknowns
        self.lines = {}
        self.is_broken = False

    def take(self, factors, total):
        """Takes an equation; the factors are a dict from unknowns to numbers."""
        line = [0] * self.unknowns + [total % self.prime]
        for x, factor in factors.items():
            line[x] = factor % self.prime
        for x in factors:
            if x in self.lines:
                line = self._less(line, x, self.lines[x])
        heads = [x for x in range(self.unknowns) if line[x] != 0]
        if heads:
            self._keep(line, heads[0])
        elif line[-1] != 0:
            self.is_broken = True

    def _less(self, line, x, by):
        factor = line[x]
        return [(a - factor * b) % self.prime for a, b in zip(line, by)] if factor != 0 else line

    def _keep(self, line, head):
        inverse = _inverse(line[head], self.prime)
        line = [a * inverse % self.prime for a in line]
        self.lines = {x: self._less(told, head, line) for x, told in self.lines.items()}
        self.lines[head] = line

    def solution(self):
        """The values with 0 for all unknowns that are no heads."""
        return tuple([self.lines[x][-1] if x in self.lines else 0 for x in range(self.unknowns)])


def _spanned(rows, p):
    """The equations whose solutions, as factors of the places, are all that is 0 on the rows less the first one."""
    space = Equations(p, len(rows[0]))
    for row in rows:
        space.take({k: row[k] - rows[0][k] for k in range(len(row))}, 0)
    return space


def _is_flat(rows, p):
    """True if the rows are all solutions of linear equations: as many as their differences span."""
    return not rows or len(rows) == raised_to(p, len(_spanned(rows, p).lines))


def _is_linear(B):
    return all([_is_flat(rows, B[0]) for _, rows in B[1]])


def is_linear(B):
    """True if `B` is linear."""
    check_template(B)
    if B[0] not in PRIMES:
        raise Malformed("no prime to 7")
    return _is_linear(B)


def place_equations(rows, p):
    """Equations of the places whose solutions are the rows, a list of pairs of factors and a sum."""
    space = _spanned(rows, p)
    found = []
    for free in range(len(rows[0])):
        if free not in space.lines:
            # What is 0 on all differences: 1 at this place, and at each head less its factor here.
            factors = [0] * len(rows[0])
            factors[free] = 1
            for head, line in space.lines.items():
                factors[head] = -line[free]
            found.append((factors, sum([a * x for a, x in zip(factors, rows[0])])))
    return found


def _solved(A, B):
    """The equations of all facts of `A`, or None if one is a fact of a table without rows."""
    told = Equations(B[0], A[0])
    seen = {}
    for (_, rows), (_, others) in zip(A[1], B[1]):
        if rows and not others:
            return None
        for factors, total in place_equations(others, B[0]) if rows else []:
            for row in rows:
                summed = {}
                for x, factor in zip(row, factors):
                    summed[x] = summed.get(x, 0) + factor
                key = (tuple(sorted(summed.items())), total)
                if key not in seen:
                    seen[key] = True
                    told.take(summed, total)
    return None if told.is_broken else told


def _linear_equations(A, B):
    """The equations of an instance of a linear template, or None; the errors come first."""
    _check_instance(A, B)
    if A[0] > MOST_SOLVED:
        raise Refused("large")
    if B[0] not in PRIMES or not _is_linear(B):
        raise Refused("linear")
    return _solved(A, B)


def linear_number(A, B):
    """The number of maps into a linear template, by elimination."""
    told = _linear_equations(A, B)
    return 0 if told is None else raised_to(B[0], A[0] - len(told.lines))


def linear_map(A, B):
    """A map into a linear template, or None."""
    told = _linear_equations(A, B)
    return None if told is None else told.solution()


def class_holds(B, word):
    """True if the class of the word holds for a template with two points."""
    f, k = CLASS_OPERATIONS[word]
    return keeps_tables(f, B, k)


def boolean_classes(B):
    """The words of the classes that hold for `B`."""
    check_template(B)
    if B[0] != 2:
        raise Malformed("not two points")
    return tuple([word for word in CLASS_OPERATIONS if class_holds(B, word)])


def has_lost_fact(A, B):
    """True if `A` has a fact of a table without rows in `B`."""
    return any([len(rows) > 0 and len(others) == 0 for (_, rows), (_, others) in zip(A[1], B[1])])


def raised_row(others, values, before):
    """The values with those changed that must be; None if no row has all values that were changed before.

    A value is `before` until it is changed. Of the rows that have all changed
    values, each one has another value than `before` where that must be.
    """
    met = [row for row in others if all([b != before or v == before for b, v in zip(row, values)])]
    if not met:
        return None
    return tuple([before if before in [row[k] for row in met] else 1 - before for k in range(len(values))])


def raised_steps(A, B, before):
    """The map with as many points at `before` as there can be, or None, and the steps that lead to this.

    A step is a pair of a table and a fact of `A` that changes values; without
    a map the last one is a fact that no row fits.
    """
    values = [before] * A[0]
    steps = []
    told = {}
    changed = True
    while changed:
        changed = False
        for t, (_, rows) in enumerate(A[1]):
            for row in rows:
                key = (t, tuple([values[x] for x in row]))
                if key not in told:
                    told[key] = raised_row(B[1][t][1], key[1], before)
                if told[key] != key[1]:
                    changed = True
                    steps.append((t, row))
                    if told[key] is None:
                        return None, tuple(steps)
                    take_raised(values, row, told[key], before)
    return tuple(values), tuple(steps)


def take_raised(values, row, raised, before):
    """Changes the values of the points of a fact to those that were raised."""
    for x, v in zip(row, raised):
        if values[x] == before:
            values[x] = v


def _barred_pairs(others, arity):
    """The tuples of two places and their values that no row of the table has."""
    found = []
    for i in range(arity):
        for j in range(arity):
            met = {(row[i], row[j]): True for row in others}
            found.extend([(i, a, j, b) for a in (0, 1) for b in (0, 1) if (a, b) not in met])
    return found


def steps_between(A, B):
    """For each value of a point the values of points that follow from it, each with a step that says so.

    A step is told by a table, a fact of `A`, and a place and a value and
    another place and its value that no row of the table has together.
    """
    steps = {(x, v): {} for x in range(A[0]) for v in (0, 1)}
    for t, (arity, rows) in enumerate(A[1]):
        for i, a, j, b in _barred_pairs(B[1][t][1], arity):
            for row in rows:
                steps[(row[i], a)][(row[j], 1 - b)] = (t, row, i, a, j, b)
    return steps


def _followed(steps, start):
    """All values that follow from one value of a point, as a dict; None if a point gets both."""
    values = {start[0]: start[1]}
    waiting = [start]
    while waiting:
        for x, v in steps[waiting.pop()]:
            if x not in values:
                values[x] = v
                waiting.append((x, v))
            elif values[x] != v:
                return None
    return values


def _paired_map(A, B):
    """A map into a template whose tables are told by their pairs of places, or None."""
    steps = steps_between(A, B)
    values = {}
    for x in range(A[0]):
        if x not in values:
            # What follows from a value that has no contradiction never meets earlier values with others.
            told = _followed(steps, (x, 0))
            if told is None:
                told = _followed(steps, (x, 1))
            if told is None:
                return None
            values.update(told)
    return tuple([values[x] for x in range(A[0])])


def class_map(A, B, word):
    """A map found in the way of the class, or None."""
    _check_instance(A, B)
    if not (isinstance(word, str) and word in CLASS_OPERATIONS):
        raise Malformed("no class")
    if A[0] > MOST_SOLVED:
        raise Refused("large")
    if B[0] != 2 or not class_holds(B, word):
        raise Refused("class")
    if has_lost_fact(A, B):
        return None
    if word == "zero" or word == "one":
        return (0 if word == "zero" else 1,) * A[0]
    if word == "least" or word == "greatest":
        return raised_steps(A, B, 0 if word == "least" else 1)[0]
    if word == "most":
        return _paired_map(A, B)
    told = _solved(A, B)
    return None if told is None else told.solution()
