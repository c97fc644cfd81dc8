"""Choices of values out of lists, one for each place (chapter 14)."""


def _moves(reached, free, held):
    """The places on the way to the value `free`, each with the value by which the way leaves it.

    `reached` tells for each value from which place it was met, and `held`
    for each place the value by which it was met, -1 for the first one.
    """
    moves = []
    v = free
    while v >= 0:
        moves.append((reached[v], v))
        v = held[reached[v]]
    return moves


class Matching:
    """A choice of unlike values for places, made longer place by place.

    `value_at` has the value of each place, or -1; `place_of` the place of
    each value, or -1.
    """

    def __init__(self, lists, m):
        self.lists = lists
        self.value_at = [-1] * len(lists)
        self.place_of = [-1] * m

    def _take(self, x, v):
        self.value_at[x] = v
        self.place_of[v] = x

    def place_with(self, start, barred):
        """Gives the place a value, others being moved; None if so, else the places met.

        The values of the dict `barred` are not touched.
        """
        reached = {}
        places = [start]
        at = 0
        while at < len(places):
            x = places[at]
            at += 1
            for v in self.lists[x]:
                if v in reached or v in barred:
                    continue
                reached[v] = x
                if self.place_of[v] < 0:
                    for y, w in _moves(reached, v, self.value_at):
                        self._take(y, w)
                    return None
                places.append(self.place_of[v])
        return tuple(sorted(places))

    def fill(self):
        """Gives all places values; None if there are such, else a Hall set."""
        for x in range(len(self.lists)):
            met = self.place_with(x, {})
            if met is not None:
                return met
        return None

    def changed_to(self, x, v, barred):
        """Gives the place `x` of a full choice the value `v`; None if so, else the places that cannot have others.

        The values of the dict `barred` stay where they are. If it cannot be
        done, all stays as it was.
        """
        if self.value_at[x] == v:
            return None
        old = self.value_at[x]
        y = self.place_of[v]
        self.place_of[old] = -1
        self._take(x, v)
        if y < 0:
            return None
        self.value_at[y] = -1
        met = self.place_with(y, {**barred, v: True})
        if met is not None:
            self._take(x, old)
            self._take(y, v)
        return met

    def tight_against(self, x, v):
        """A tight set against `(x, v)` for a full choice, or None if the value is kept."""
        values, places = list(self.value_at), list(self.place_of)
        met = self.changed_to(x, v, {})
        self.value_at, self.place_of = values, places
        return met

    def least_row(self):
        """The least row of unlike values, for a full choice."""
        barred = {}
        for x, row in enumerate(self.lists):
            for v in row:
                if v not in barred and self.changed_to(x, v, barred) is None:
                    break
            barred[self.value_at[x]] = True
        return tuple(self.value_at)


class BoundedRow:
    """A choice of values that stand at least and at most as often as bounds tell.

    `barrier` is None, and `chosen` the values, if there is one; otherwise
    `barrier` shows that there is none.
    """

    def __init__(self, lists, bounds):
        self.lists = lists
        self.bounds = bounds
        self.chosen = [-1] * len(lists)
        self.counts = [0] * len(bounds)
        self.barrier = self._met_least()
        if self.barrier is None:
            self.barrier = self._met_most()

    def _met_least(self):
        """Lets each value stand as often as it must, at some of the places; a barrier if it cannot."""
        places = [[x for x, row in enumerate(self.lists) if v in row] for v in range(len(self.bounds))]
        for v, (least, _) in enumerate(self.bounds):
            while self.counts[v] < least:
                values = self._give_place(v, places)
                if values is not None:
                    return "low", values
        return None

    def _give_place(self, start, places):
        """Gives the value one place more, others being moved; None if so, else the values met."""
        left = {start: (-1, -1)}
        values = [start]
        at = 0
        while at < len(values):
            v = values[at]
            at += 1
            for x in places[v]:
                w = self.chosen[x]
                if w < 0:
                    self._hand_on(left, x, v)
                    self.counts[start] += 1
                    return None
                if w not in left:
                    # The value `w` would leave this place to `v`.
                    left[w] = (x, v)
                    values.append(w)
        return tuple(sorted(values))

    def _hand_on(self, left, free, v):
        """Gives the value the free place, and each place that it would leave to the value that it leaves it to."""
        x = free
        while x >= 0:
            self.chosen[x] = v
            x, v = left[v]

    def _met_most(self):
        """Gives all other places values, none of them too often; a barrier if it cannot."""
        for x in range(len(self.lists)):
            if self.chosen[x] < 0:
                places = self._give_value(x)
                if places is not None:
                    return "high", places
        return None

    def _give_value(self, start):
        """Gives the place a value, others being moved; None if so, else the places met."""
        reached = {}
        places = [start]
        at = 0
        while at < len(places):
            x = places[at]
            at += 1
            for v in self.lists[x]:
                if v in reached:
                    continue
                reached[v] = x
                if self.counts[v] < self.bounds[v][1]:
                    for y, w in _moves(reached, v, self.chosen):
                        self.chosen[y] = w
                    self.counts[v] += 1
                    return None
                places.extend([z for z, told in enumerate(self.chosen) if told == v])
        return tuple(sorted(places))
