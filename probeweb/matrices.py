"""Words, paths, cycles and grids by the matrices of letters (points 8.2 to 8.7)."""

from probeweb.errors import Malformed, Refused
from probeweb.linear import LineSpace, fraction_inverse, fraction_product, turned_rows
from probeweb.strands import gone_through
from probeweb.structures import (
    MOST_POINTS, arities_of, check_binary, check_both_binary, is_pair, is_point, kind_of, mask_of)
from probeweb.whole import is_number_from, raised_to

MOST_LETTERS = 1000
MOST_WITHIN_SOURCE = 40
MOST_WITHIN_TARGET = 10
MOST_APART = 16
MOST_CLOSED = 60
MOST_CLOSED_POINTS = 24
MOST_SPECTRUM = 20
MOST_CYCLE_POINTS = 12
MOST_SIDE = 30
MOST_COLUMNS = 1000


def kind_letters(A):
    """The letters of the kind, ascending."""
    check_binary(A)
    return tuple([(t, turn) for t, arity in enumerate(arities_of(A)) for turn in range(arity)])


def _is_letter(value, kind):
    """True for a letter of the binary kind."""
    return is_pair(value) and is_point(value[0], len(kind)) and is_point(value[1], kind[value[0]])


def is_word(value, kind):
    """True for a word of the binary kind, for every value."""
    return isinstance(value, tuple) and all([_is_letter(letter, kind) for letter in value])


def _check_word(A, word):
    """None for a binary structure and a word of its kind."""
    check_binary(A)
    if not is_word(word, arities_of(A)):
        raise Malformed("no word")


def _steps(A, letter):
    """For each point the list of the points to which the letter leads."""
    t, turn = letter
    arity, rows = A[1][t]
    steps = [[] for _ in range(A[0])]
    for row in rows:
        x, y = (row[0], row[0]) if arity == 1 else row
        if turn == 1:
            x, y = y, x
        steps[x].append(y)
    return steps


def step_tables(A):
    """The steps of each letter of the kind, in order."""
    return [_steps(A, letter) for letter in kind_letters(A)]


def step_masks(A):
    """For each letter, in order, and each point the mask of the points to which the letter leads."""
    return [[mask_of(ends) for ends in steps] for steps in step_tables(A)]


def letter_rows(A, letter):
    """The matrix of a letter, of integers."""
    check_binary(A)
    if not _is_letter(letter, arities_of(A)):
        raise Malformed("no letter")
    made = []
    for ends in _steps(A, letter):
        line = [0] * A[0]
        for y in ends:
            line[y] = 1
        made.append(tuple(line))
    return tuple(made)


def word_path(A, word):
    """The path of a word, a structure of the kind of `A`."""
    _check_word(A, word)
    kind = arities_of(A)
    at = 0
    facts = [{} for _ in kind]
    for t, turn in word:
        if kind[t] == 1:
            facts[t][(at,)] = True
        else:
            facts[t][(at, at + 1) if turn == 0 else (at + 1, at)] = True
            at += 1
    if at + 1 > MOST_POINTS:
        raise Refused("large")
    return at + 1, tuple([(arity, tuple(sorted(told))) for arity, told in zip(kind, facts)])


def _led_back(steps, column):
    """The matrix of some steps times a column."""
    return [sum([column[y] for y in ends]) for ends in steps]


def word_number(A, word):
    """The number of a word in `A`."""
    _check_word(A, word)
    if len(word) > MOST_LETTERS:
        raise Refused("large")
    return path_number(A, word)


def path_number(A, word):
    """The number of a word of any length in `A`, without a check."""
    tables = {letter: _steps(A, letter) for letter in kind_letters(A)}
    column = [1] * A[0]
    for letter in reversed(word):
        column = _led_back(tables[letter], column)
    return sum(column)


def has_path(A, word):
    """True if the number of a word of any length in `A` is not 0, without a check."""
    tables = {letter: masks for letter, masks in zip(kind_letters(A), step_masks(A))}
    met = (1 << A[0]) - 1
    for letter in word:
        met = gone_through(met, tables[letter])
    return met != 0


class WithinWalk:
    """The walk through the pairs of a point of `A` and a set of points of `B` (point 8.3).

    A stop of the walk has all pairs whose least word is one and the same: a
    dict from the set to the mask of the points. Stops come in the order of
    their words.
    """

    def __init__(self, A, B):
        self.letters = kind_letters(A)
        self.source = step_masks(A)
        self.target = step_masks(B)
        self.images = {}
        every = (1 << B[0]) - 1
        self.seen = {every: (1 << A[0]) - 1}
        self.stops = [{every: (1 << A[0]) - 1}] if A[0] > 0 else []
        self.before = [(-1, -1)]

    def image(self, points, k):
        """The set of the points of `B` to which the letter leads from the set."""
        if (points, k) not in self.images:
            self.images[(points, k)] = gone_through(points, self.target[k])
        return self.images[(points, k)]

    def _next_stop(self, stop, k):
        """The pairs to which the letter leads from a stop, and that no lesser word leads to."""
        fresh = {}
        for points, mask in stop.items():
            image = self.image(points, k)
            told = gone_through(mask, self.source[k]) & ~self.seen.get(image, 0)
            if told != 0:
                self.seen[image] = self.seen.get(image, 0) | told
                fresh[image] = fresh.get(image, 0) | told
        return fresh

    def end(self):
        """The number of the first stop with the empty set, or -1."""
        at = 0
        while at < len(self.stops):
            if 0 in self.stops[at]:
                return at
            for k in range(len(self.letters)):
                fresh = self._next_stop(self.stops[at], k)
                if fresh:
                    self.stops.append(fresh)
                    self.before.append((at, k))
            at += 1
        return -1

    def word_to(self, at):
        """The least word that leads to a stop."""
        letters = []
        while at > 0:
            at, k = self.before[at]
            letters.append(self.letters[k])
        return tuple(letters[::-1])


def check_within(A, B):
    """The errors of the walk."""
    check_both_binary(A, B)
    if A[0] > MOST_WITHIN_SOURCE or B[0] > MOST_WITHIN_TARGET:
        raise Refused("large")


def word_within(A, B):
    """The least word that is in `A` and not in `B`, or None."""
    check_within(A, B)
    walk = WithinWalk(A, B)
    end = walk.end()
    return None if end < 0 else walk.word_to(end)


def _kept_words(A, B):
    """The words whose columns, in `A` and behind it `B`, are no sums of multiples of those before.

    A list of triples of a word and its columns in both.
    """
    letters = kind_letters(A)
    source, target = step_tables(A), step_tables(B)
    space = LineSpace()
    row = [((), [1] * A[0], [1] * B[0])]
    kept = []
    while row:
        fresh = [told for told in row if space.take(told[1] + told[2])]
        kept.extend(fresh)
        row = []
        for k, letter in enumerate(letters):
            for word, one, two in fresh:
                row.append(((letter,) + word, _led_back(source[k], one), _led_back(target[k], two)))
    return kept


def _check_apart(A, B):
    check_both_binary(A, B)
    if A[0] > MOST_APART or B[0] > MOST_APART:
        raise Refused("large")


def word_apart(A, B):
    """The least word whose numbers in `A` and `B` are unlike, or None."""
    _check_apart(A, B)
    for word, one, two in _kept_words(A, B):
        if sum(one) != sum(two):
            return word
    return None


def path_matrix(A, B):
    """The path matrix of `A` and `B`, or None if there is none."""
    _check_apart(A, B)
    kept = _kept_words(A, B)
    if any([sum(one) != sum(two) for _, one, two in kept]):
        return None
    if A[0] == 0:
        return ()
    # Words that are kept for both are kept for each one, as their columns have the same products.
    P = tuple([tuple([(a, 1) for a in one]) for _, one, _ in kept])
    Q = tuple([tuple([(a, 1) for a in two]) for _, _, two in kept])
    turned = turned_rows(P, A[0])
    inverse = fraction_inverse(fraction_product(P, turned))
    return fraction_product(turned, fraction_product(inverse, Q))


def check_single(A):
    """None for a structure of the kind (2,)."""
    if kind_of(A) != (2,):
        raise Malformed("not one table of the arity 2")


def traces_of(A, most):
    """The traces of the first powers of the matrix of `A`, without a check."""
    steps = _steps(A, (0, 0))
    points = range(A[0])
    # Each row of a power is one integer, with a slot for each item that is wide enough for all powers.
    width = A[0].bit_length() * most + 1
    rows = [1 << x * width for x in points]
    traces = []
    for _ in range(most):
        rows = [sum([rows[y] for y in ends]) for ends in steps]
        traces.append(sum([rows[x] >> x * width & (1 << width) - 1 for x in points]))
    return traces


def closed_row(A, most):
    """The numbers of maps of the cycles of 1 to `most` points into `A`."""
    check_single(A)
    if not is_number_from(most, 0):
        raise Malformed("no number of cycles")
    if most > MOST_CLOSED or A[0] > MOST_CLOSED_POINTS:
        raise Refused("large")
    return tuple(traces_of(A, most))


def spectrum_row(A):
    """The coefficients of the characteristic polynomial, the highest power first."""
    check_single(A)
    check_spectrum(A)
    return told_by_traces(traces_of(A, A[0]))


def check_spectrum(A):
    """Refuses structures with too many points for a spectrum."""
    if A[0] > MOST_SPECTRUM:
        raise Refused("large")


def told_by_traces(traces):
    """The coefficients that the traces tell (Newton)."""
    row = [1]
    for k in range(1, len(traces) + 1):
        row.append(-sum([row[j] * traces[k - 1 - j] for j in range(k)]) // k)
    return tuple(row)


def _has_closed_walk(masks):
    return any([mask >> x & 1 == 1 for x, mask in enumerate(masks)])


def cycle_within(A, B):
    """The least `k` such that the cycle of `k` points maps into `A` and not into `B`, or None."""
    check_single(A)
    check_single(B)
    if A[0] > MOST_CYCLE_POINTS or B[0] > MOST_CYCLE_POINTS:
        raise Refused("large")
    first = [[mask_of(ends) for ends in _steps(told, (0, 0))] for told in (A, B)]
    one, two = first
    seen = {}
    k = 1
    # The walks of a length tell those of the next one: what comes twice goes round.
    while (tuple(one), tuple(two)) not in seen:
        if _has_closed_walk(one) and not _has_closed_walk(two):
            return k
        seen[(tuple(one), tuple(two))] = True
        one = [gone_through(mask, first[0]) for mask in one]
        two = [gone_through(mask, first[1]) for mask in two]
        k += 1
    return None


def cycle_graph(k):
    """The cycle of `k` points."""
    if not (is_number_from(k, 1) and k <= MOST_POINTS):
        raise Malformed("no number of points of a cycle")
    return k, ((2, tuple(sorted([(i, (i + 1) % k) for i in range(k)]))),)


def _check_sides(r, k):
    if not (is_number_from(r, 1) and is_number_from(k, 1)):
        raise Malformed("no sides of a grid")


def grid_graph(r, k):
    """The grid of `r` rows and `k` columns."""
    _check_sides(r, k)
    if r * k > MOST_POINTS:
        raise Refused("large")
    down = [(r * j + i, r * j + i + 1) for j in range(k) for i in range(r - 1)]
    along = [(r * j + i, r * j + i + r) for j in range(k - 1) for i in range(r)]
    return r * k, ((2, tuple(sorted(down + along))),)


def _grid_columns(A, r):
    """The rows of `r` points, each neighbours of which are a fact."""
    steps = _steps(A, (0, 0))
    columns = [(x,) for x in range(A[0])]
    for _ in range(r - 1):
        columns = [column + (y,) for column in columns for y in steps[column[-1]]]
    return columns


def _led_along(steps, numbers, r):
    """The numbers of all rows of points, led along the steps at each of the `r` places."""
    for place in range(r):
        after = {}
        for row, number in numbers.items():
            for y in steps[row[place]]:
                led = row[:place] + (y,) + row[place + 1:]
                after[led] = after.get(led, 0) + number
        numbers = after
    return numbers


def grid_number(A, r, k):
    """The number of the maps of the grid into `A`."""
    check_single(A)
    _check_sides(r, k)
    if r > MOST_SIDE or k > MOST_SIDE or raised_to(A[0], r) > MOST_COLUMNS:
        raise Refused("large")
    steps = _steps(A, (0, 0))
    numbers = {column: 1 for column in _grid_columns(A, r)}
    columns = list(numbers)
    for _ in range(k - 1):
        led = _led_along(steps, numbers, r)
        numbers = {column: led[column] for column in columns if column in led}
    return sum(list(numbers.values()))
