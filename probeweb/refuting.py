"""The search for refutations: slim ones, by cases, and narrow ones (chapter 5)."""

from probeweb.errors import Refused
from probeweb.solving import MapSearch, openings_of

SPAN = 3
# Longer nogoods are seldom met again, and to look for them takes most of the time.
MOST_KNOWN = 5


def used_rows(rows):
    """The ascending list of the indexes of the rows that the last one rests on, its own among them."""
    used = [False] * len(rows)
    used[-1] = True
    for k in reversed(range(len(rows))):
        if used[k]:
            for j in rows[k][1][-1]:
                used[j] = True
    return [k for k in range(len(rows)) if used[k]]


def _trimmed(rows):
    """The refutation without the rows that its end does not rest on."""
    kept = used_rows(rows)
    numbers = {k: at for at, k in enumerate(kept)}
    made = []
    for k in kept:
        nogood, reason = rows[k]
        made.append((nogood, reason[:-1] + (tuple([numbers[j] for j in reason[-1]]),)))
    return tuple(made)


def _facts_of(A):
    """The triples of a table, an index and the fact there."""
    return [(t, i, fact) for t, (_, rows) in enumerate(A[1]) for i, fact in enumerate(rows)]


class SlimSearch:
    """All nogoods of one choice that slim refutations have, with the rows that lead to them.

    `lists` has for each point of `A` the mask of the points of `B` without
    such a nogood, `numbers` the index of the row for each choice with one.
    """

    def __init__(self, A, B):
        self.many = B[0]
        self.rows = []
        self.numbers = {}
        self.lists = [(1 << B[0]) - 1] * A[0]
        self.told_openings = {}
        self.told_supports = {}
        self._close(B, _facts_of(A))

    def _close(self, B, facts):
        facts_at = [[j for j in range(len(facts)) if x in facts[j][2]] for x in range(len(self.lists))]
        waiting = list(range(len(facts)))
        queued = {k: True for k in waiting}
        while waiting:
            k = waiting.pop()
            del queued[k]
            t, i, fact = facts[k]
            lost = self._lost(B, t, fact)
            for choice in lost:
                self._take_away(B, t, i, fact, choice)
            fresh = list({j: True for x, _ in lost for j in facts_at[x] if j not in queued})
            queued.update({j: True for j in fresh})
            waiting.extend(fresh)

    def _lost(self, B, t, fact):
        """The choices in the lists that no opening within the lists has."""
        masks = tuple([self.lists[x] for x in fact])
        key = (t, tuple([fact.index(x) for x in fact]), masks)
        if key not in self.told_supports:
            supports = [0] * len(fact)
            for row in openings_of(B, t, fact, {}, self.told_openings):
                if all([masks[k] >> row[k] & 1 == 1 for k in range(len(fact))]):
                    supports = [told | 1 << b for told, b in zip(supports, row)]
            self.told_supports[key] = supports
        lost = {}
        for x, mask, support in zip(fact, masks, self.told_supports[key]):
            lost.update({(x, v): True for v in range(self.many) if (mask & ~support) >> v & 1 == 1})
        return sorted(lost)

    def _take_away(self, B, t, i, fact, choice):
        x, v = choice
        js = []
        for opening in openings_of(B, t, fact, {x: v}, self.told_openings):
            js.append([self.numbers[pair] for pair in zip(fact, opening) if pair in self.numbers][0])
        self.lists[x] = self.lists[x] & ~(1 << v)
        self.numbers[choice] = len(self.rows)
        self.rows.append(((choice,), ("fact", t, i, tuple(js))))

    def refutation(self):
        """The rows that lead to the empty nogood, or None if there are none."""
        if 0 not in self.lists:
            return None
        x = self.lists.index(0)
        js = tuple([self.numbers[(x, v)] for v in range(self.many)])
        return _trimmed(self.rows + [((), ("point", x, js))])


class CaseSearch:
    """A refutation by cases, for structures without a map: each case is taken back as far as it goes."""

    def __init__(self, A, B, slim, most):
        self.most = most
        self.target = B
        self.many = B[0]
        self.points = tuple(range(A[0]))
        self.maps = MapSearch(A, B)
        facts = _facts_of(A)
        self.facts_at = [[fact for fact in facts if x in fact[2]] for x in self.points]
        self.told_openings = {}
        self.rows = []
        self.numbers = {}
        self.known = {}
        for nogood, reason in slim.rows:
            self._number_of(nogood, reason)

    def _number_of(self, nogood, reason):
        """The index of the row of a nogood, which is put to the rows if it is a new one."""
        if nogood not in self.numbers:
            self.numbers[nogood] = len(self.rows)
            if len(nogood) <= MOST_KNOWN:
                self._make_known(nogood, len(self.rows))
            self.rows.append((nogood, reason))
            if self.most is not None and len(self.rows) > self.most:
                raise Refused("large")
        return self.numbers[nogood]

    def _make_known(self, nogood, j):
        """Lets the row of the nogood be found by each of its choices."""
        mask = sum([self.bit(x, v) for x, v in nogood])
        for choice in nogood:
            self.known.setdefault(choice, []).append((mask, j))

    def bit(self, x, v):
        """The mask of one choice."""
        return 1 << x * self.many + v

    def _broken_at(self, held, x):
        """The index of a row for a fact at `x` without an opening, or None."""
        for t, i, fact in self.facts_at[x]:
            if not openings_of(self.target, t, fact, held, self.told_openings):
                nogood = tuple([(y, held[y]) for y in sorted(set(fact)) if y in held])
                return self._number_of(nogood, ("fact", t, i, ()))
        return None

    def _narrowed(self, lists, x, v):
        """The lists with the value `v` at `x`, as far as the facts at `x` make them smaller."""
        after = list(lists)
        after[x] = 1 << v
        for k in self.maps.rules_at[x]:
            kept = self.maps.kept_by(k, after)
            for y, mask in zip(self.maps.rules[k][0], kept):
                if y != x:
                    after[y] = mask
        return after

    def refuted(self, held, mask, lists):
        """The index of a row whose nogood is within the held choices, of which `mask` is the mask."""
        x = self.maps.narrowest(lists, [y for y in self.points if y not in held])
        js = []
        for v in range(self.many):
            j = self._refuted_with(held, mask, lists, x, v)
            if (x, v) not in self.rows[j][0]:
                return j
            js.append(j)
        others = {choice: True for j in js for choice in self.rows[j][0] if choice[0] != x}
        return self._number_of(tuple(sorted(others)), ("point", x, tuple(js)))

    def _refuted_with(self, held, mask, lists, x, v):
        longer = mask | self.bit(x, v)
        for told, j in self.known.get((x, v), []):
            if told & longer == told:
                return j
        held = {**held, x: v}
        j = self._broken_at(held, x)
        if j is None:
            j = self.refuted(held, longer, self._narrowed(lists, x, v))
        return j


def refutation_by_cases(A, B, most):
    """As `case_refutation`, without a check.

    It is refused if more than `most` rows are written, unless this is None.
    """
    slim = SlimSearch(A, B)
    if 0 in slim.lists:
        return slim.refutation()
    search = CaseSearch(A, B, slim, most)
    if search.maps.is_solvable_within(tuple(range(B[0]))):
        return None
    end = search.refuted({}, 0, slim.lists)
    return _trimmed(search.rows[:end + 1])


class SpanSearch:
    """The functions of at most three points that are taken away by point 5.5, with rows that tell why."""

    def __init__(self, A, B):
        self.points = tuple(range(A[0]))
        self.many = B[0]
        self.rows = []
        self.numbers = {}
        self.counts = {}
        self.waiting = []
        for t, i, fact in _facts_of(A):
            facts = {row: True for row in B[1][t][1]}
            for function in self._functions_on(tuple(sorted(set(fact)))):
                values = dict(function)
                if tuple([values[x] for x in fact]) not in facts:
                    self._take_away(function, ("fact", t, i, ()))

    def _functions_on(self, scope):
        functions = [()]
        for x in scope:
            functions = [function + ((x, v),) for function in functions for v in range(self.many)]
        return functions

    def _take_away(self, function, reason):
        """Takes a function away with a row of its own."""
        if function not in self.numbers:
            self.numbers[function] = len(self.rows)
            self.rows.append((function, reason))
            self.waiting.append(function)

    def _take_longer(self, function):
        """Takes away what has the function as a part; the row of the function tells why."""
        held = dict(function)
        for x in self.points:
            for v in range(self.many):
                longer = tuple(sorted(function + ((x, v),)))
                if x not in held and longer not in self.numbers:
                    self.numbers[longer] = self.numbers[function]
                    self.waiting.append(longer)

    def _count_shorter(self, function):
        """Takes away the parts of the function that have no continuation any more."""
        for x, _ in function:
            shorter = tuple([choice for choice in function if choice[0] != x])
            self.counts[(shorter, x)] = self.counts.get((shorter, x), 0) + 1
            if self.counts[(shorter, x)] == self.many:
                longer = [tuple(sorted(shorter + ((x, v),))) for v in range(self.many)]
                self._take_away(shorter, ("point", x, tuple([self.numbers[told] for told in longer])))

    def refutation(self):
        """The rows that lead to the empty nogood, or None if there are none."""
        if self.many == 0 and self.points:
            return (((), ("point", 0, ())),)
        at = 0
        while at < len(self.waiting) and () not in self.numbers:
            function = self.waiting[at]
            at += 1
            self._count_shorter(function)
            if len(function) < SPAN:
                self._take_longer(function)
        if () not in self.numbers:
            return None
        return _trimmed(self.rows[:self.numbers[()] + 1])
