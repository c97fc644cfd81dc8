"""Nogoods and refutations (points 5.1 to 5.6)."""

from probeweb.arcs import check_arc_sizes
from probeweb.errors import Malformed, Refused
from probeweb.solving import MapSearch, openings_of
from probeweb.structures import check_alike, check_structure, is_pair, is_point, is_point_tuple

MOST_SEARCHED = 24
MOST_VALUES = 8
MOST_ROWS = 20000
MOST_SPANNED = 12
MOST_SPAN_VALUES = 5
SPAN = 3


def is_choice(A, B, value):
    """True for a pair of a point of `A` and one of `B`."""
    return is_pair(value) and is_point(value[0], A[0]) and is_point(value[1], B[0])


def _is_nogood(A, B, value):
    if not (isinstance(value, tuple) and all(is_choice(A, B, choice) for choice in value)):
        return False
    return all(value[k][0] < value[k + 1][0] for k in range(len(value) - 1))


def is_nogood(A, B, value):
    """True if the value is a nogood, for every value."""
    check_alike(A, B)
    return _is_nogood(A, B, value)


def is_fact_index(A, t, i):
    """True if the table `t` of `A` has a fact with the index `i`."""
    return is_point(t, len(A[1])) and is_point(i, len(A[1][t][1]))


def fact_openings(A, B, nogood, t, i):
    """The ascending tuple of the openings of a fact under a nogood."""
    check_alike(A, B)
    if not (_is_nogood(A, B, nogood) and is_fact_index(A, t, i)):
        raise Malformed("no nogood or no fact")
    return openings_of(B, t, A[1][t][1][i], dict(nogood), {})


def _is_within(nogood, held):
    return all(held.get(x) == v for x, v in nogood)


def _holds_by_point(A, B, rows, k):
    """True if the row has a right reason "point"."""
    nogood, (_, x, js) = rows[k]
    held = dict(nogood)
    if not is_point(x, A[0]) or x in held or not is_point_tuple(js, k, B[0]):
        return False
    for v, j in enumerate(js):
        if not _is_within(rows[j][0], {**held, x: v}):
            return False
    return True


def _holds_by_fact(A, B, rows, k, told):
    """True if the row has a right reason "fact"."""
    nogood, (_, t, i, js) = rows[k]
    if not is_fact_index(A, t, i):
        return False
    held = dict(nogood)
    fact = A[1][t][1][i]
    openings = openings_of(B, t, fact, held, told)
    if not is_point_tuple(js, k, len(openings)):
        return False
    for opening, j in zip(openings, js):
        if not _is_within(rows[j][0], {**held, **{x: b for x, b in zip(fact, opening)}}):
            return False
    return True


def _is_right_row(A, B, rows, k, told):
    """True if the row is one of a refutation, for every value of it."""
    if not (is_pair(rows[k]) and _is_nogood(A, B, rows[k][0]) and isinstance(rows[k][1], tuple)):
        return False
    reason = rows[k][1]
    if len(reason) == 3 and reason[0] == "point":
        return _holds_by_point(A, B, rows, k)
    return len(reason) == 4 and reason[0] == "fact" and _holds_by_fact(A, B, rows, k, told)


def refuted_nogood(A, B, value):
    """The nogood with which the value ends if it is a refutation, else None, for every value."""
    check_alike(A, B)
    if not (isinstance(value, tuple) and len(value) > 0):
        return None
    told = {}
    for k in range(len(value)):
        if not _is_right_row(A, B, value, k, told):
            return None
    return value[-1][0]


def used_rows(rows):
    """The ascending list of the indexes of the rows that the last one rests on, its own among them."""
    used = [False] * len(rows)
    used[-1] = True
    for k in reversed(range(len(rows))):
        if used[k]:
            for j in rows[k][1][-1]:
                used[j] = True
    return [k for k in range(len(rows)) if used[k]]


def _trimmed(rows):
    """The refutation without the rows that its end does not rest on."""
    kept = used_rows(rows)
    numbers = {k: at for at, k in enumerate(kept)}
    made = []
    for k in kept:
        nogood, reason = rows[k]
        made.append((nogood, reason[:-1] + (tuple([numbers[j] for j in reason[-1]]),)))
    return tuple(made)


def nogood_length(rows):
    """The greatest number of choices in a nogood of a refutation."""
    return max([len(nogood) for nogood, _ in rows])


def row_span(A, rows):
    """The greatest span of the rows of a refutation."""
    check_structure(A)
    spans = []
    for nogood, reason in rows:
        met = (reason[1],) if reason[0] == "point" else A[1][reason[1]][1][reason[2]]
        spans.append(len(set([x for x, _ in nogood] + list(met))))
    return max(spans)


def case_number(rows):
    """The case number of a refutation."""
    numbers = []
    for _, reason in rows:
        numbers.append(1 + sum([numbers[j] for j in reason[-1]]))
    return numbers[-1]


def _facts_of(A):
    """The triples of a table, an index and the fact there."""
    return [(t, i, fact) for t, (_, rows) in enumerate(A[1]) for i, fact in enumerate(rows)]


class SlimSearch:
    """All nogoods of one choice that slim refutations have, with the rows that lead to them.

    `lists` has for each point of `A` the mask of the points of `B` without
    such a nogood, `numbers` the index of the row for each choice with one.
    """

    def __init__(self, A, B):
        self.many = B[0]
        self.rows = []
        self.numbers = {}
        self.lists = [(1 << B[0]) - 1] * A[0]
        self.told_openings = {}
        self.told_supports = {}
        self._close(B, _facts_of(A))

    def _close(self, B, facts):
        facts_at = [[j for j in range(len(facts)) if x in facts[j][2]] for x in range(len(self.lists))]
        waiting = list(range(len(facts)))
        queued = {k: True for k in waiting}
        while waiting:
            k = waiting.pop()
            del queued[k]
            t, i, fact = facts[k]
            lost = self._lost(B, t, fact)
            for choice in lost:
                self._take_away(B, t, i, fact, choice)
            fresh = list({j: True for x, _ in lost for j in facts_at[x] if j not in queued})
            queued.update({j: True for j in fresh})
            waiting.extend(fresh)

    def _lost(self, B, t, fact):
        """The choices in the lists that no opening within the lists has."""
        masks = tuple([self.lists[x] for x in fact])
        key = (t, tuple([fact.index(x) for x in fact]), masks)
        if key not in self.told_supports:
            supports = [0] * len(fact)
            for row in openings_of(B, t, fact, {}, self.told_openings):
                if all(masks[k] >> row[k] & 1 == 1 for k in range(len(fact))):
                    supports = [told | 1 << b for told, b in zip(supports, row)]
            self.told_supports[key] = supports
        lost = {}
        for x, mask, support in zip(fact, masks, self.told_supports[key]):
            lost.update({(x, v): True for v in range(self.many) if (mask & ~support) >> v & 1 == 1})
        return sorted(lost)

    def _take_away(self, B, t, i, fact, choice):
        x, v = choice
        js = []
        for opening in openings_of(B, t, fact, {x: v}, self.told_openings):
            js.append([self.numbers[pair] for pair in zip(fact, opening) if pair in self.numbers][0])
        self.lists[x] = self.lists[x] & ~(1 << v)
        self.numbers[choice] = len(self.rows)
        self.rows.append(((choice,), ("fact", t, i, tuple(js))))

    def refutation(self):
        """The rows that lead to the empty nogood, or None if there are none."""
        if 0 not in self.lists:
            return None
        x = self.lists.index(0)
        js = tuple([self.numbers[(x, v)] for v in range(self.many)])
        return _trimmed(self.rows + [((), ("point", x, js))])


def slim_refutation(A, B):
    """A slim refutation of `A` and `B`, or None if there is none."""
    check_alike(A, B)
    check_arc_sizes(A, B)
    return SlimSearch(A, B).refutation()


class CaseSearch:
    """A refutation by cases, for structures without a map: each case is taken back as far as it goes."""

    def __init__(self, A, B, slim):
        self.target = B
        self.many = B[0]
        self.points = tuple(range(A[0]))
        self.maps = MapSearch(A, B)
        facts = _facts_of(A)
        self.facts_at = [[fact for fact in facts if x in fact[2]] for x in self.points]
        self.told_openings = {}
        self.rows = []
        self.numbers = {}
        self.known = {}
        for nogood, reason in slim.rows:
            self._number_of(nogood, reason)

    def _number_of(self, nogood, reason):
        """The index of the row of a nogood, which is put to the rows if it is a new one."""
        if nogood not in self.numbers:
            self.numbers[nogood] = len(self.rows)
            mask = sum([self.bit(x, v) for x, v in nogood])
            for choice in nogood:
                self.known.setdefault(choice, []).append((mask, len(self.rows)))
            self.rows.append((nogood, reason))
            if len(self.rows) > MOST_ROWS:
                raise Refused("large")
        return self.numbers[nogood]

    def bit(self, x, v):
        """The mask of one choice."""
        return 1 << x * self.many + v

    def _broken_at(self, held, x):
        """The index of a row for a fact at `x` without an opening, or None."""
        for t, i, fact in self.facts_at[x]:
            if not openings_of(self.target, t, fact, held, self.told_openings):
                nogood = tuple([(y, held[y]) for y in sorted(set(fact)) if y in held])
                return self._number_of(nogood, ("fact", t, i, ()))
        return None

    def _narrowed(self, lists, x, v):
        """The lists with the value `v` at `x`, as far as the facts at `x` make them smaller."""
        after = list(lists)
        after[x] = 1 << v
        for k in self.maps.rules_at[x]:
            kept = self.maps.kept_by(k, after)
            for y, mask in zip(self.maps.rules[k][0], kept):
                if y != x:
                    after[y] = mask
        return after

    def refuted(self, held, mask, lists):
        """The index of a row whose nogood is within the held choices, of which `mask` is the mask."""
        x = self.maps.narrowest(lists, [y for y in self.points if y not in held])
        js = []
        for v in range(self.many):
            j = self._refuted_with(held, mask, lists, x, v)
            if (x, v) not in self.rows[j][0]:
                return j
            js.append(j)
        others = {choice: True for j in js for choice in self.rows[j][0] if choice[0] != x}
        return self._number_of(tuple(sorted(others)), ("point", x, tuple(js)))

    def _refuted_with(self, held, mask, lists, x, v):
        longer = mask | self.bit(x, v)
        for told, j in self.known.get((x, v), []):
            if told & longer == told:
                return j
        held = {**held, x: v}
        j = self._broken_at(held, x)
        if j is None:
            j = self.refuted(held, longer, self._narrowed(lists, x, v))
        return j


def case_refutation(A, B):
    """A refutation of `A` and `B`, or None if `A` maps into `B`."""
    check_alike(A, B)
    if A[0] > MOST_SEARCHED or B[0] > MOST_VALUES:
        raise Refused("large")
    slim = SlimSearch(A, B)
    if 0 in slim.lists:
        return slim.refutation()
    search = CaseSearch(A, B, slim)
    if search.maps.is_solvable_within(tuple(range(B[0]))):
        return None
    end = search.refuted({}, 0, slim.lists)
    return _trimmed(search.rows[:end + 1])


class SpanSearch:
    """The functions of at most three points that are taken away by point 5.5, with rows that tell why."""

    def __init__(self, A, B):
        self.points = tuple(range(A[0]))
        self.many = B[0]
        self.rows = []
        self.numbers = {}
        self.counts = {}
        self.waiting = []
        for t, i, fact in _facts_of(A):
            facts = {row: True for row in B[1][t][1]}
            for function in self._functions_on(tuple(sorted(set(fact)))):
                values = dict(function)
                if tuple([values[x] for x in fact]) not in facts:
                    self._take_away(function, ("fact", t, i, ()))

    def _functions_on(self, scope):
        functions = [()]
        for x in scope:
            functions = [function + ((x, v),) for function in functions for v in range(self.many)]
        return functions

    def _take_away(self, function, reason):
        """Takes a function away with a row of its own."""
        if function not in self.numbers:
            self.numbers[function] = len(self.rows)
            self.rows.append((function, reason))
            self.waiting.append(function)

    def _take_longer(self, function):
        """Takes away what has the function as a part; the row of the function tells why."""
        held = dict(function)
        for x in self.points:
            for v in range(self.many):
                longer = tuple(sorted(function + ((x, v),)))
                if x not in held and longer not in self.numbers:
                    self.numbers[longer] = self.numbers[function]
                    self.waiting.append(longer)

    def _count_shorter(self, function):
        """Takes away the parts of the function that have no continuation any more."""
        for x, _ in function:
            shorter = tuple([choice for choice in function if choice[0] != x])
            self.counts[(shorter, x)] = self.counts.get((shorter, x), 0) + 1
            if self.counts[(shorter, x)] == self.many:
                longer = [tuple(sorted(shorter + ((x, v),))) for v in range(self.many)]
                self._take_away(shorter, ("point", x, tuple([self.numbers[told] for told in longer])))

    def refutation(self):
        """The rows that lead to the empty nogood, or None if there are none."""
        if self.many == 0 and self.points:
            return (((), ("point", 0, ())),)
        at = 0
        while at < len(self.waiting) and () not in self.numbers:
            function = self.waiting[at]
            at += 1
            self._count_shorter(function)
            if len(function) < SPAN:
                self._take_longer(function)
        if () not in self.numbers:
            return None
        return _trimmed(self.rows[:self.numbers[()] + 1])


def span_refutation(A, B):
    """A refutation of `A` and `B` all of whose rows have a span of at most 3, or None."""
    check_alike(A, B)
    if A[0] > MOST_SPANNED or B[0] > MOST_SPAN_VALUES:
        raise Refused("large")
    return SpanSearch(A, B).refutation()
