"""The search for maps, their number along an order, and the openings of facts.

A list of points of `B` is a mask here: an integer whose binary digit `v`
is 1 if the point `v` is in the list.
"""

from probeweb.structures import image_rows, linked_parts, points_joined


def _fitting_values(rows, pattern, size):
    """The values of `size` points that the rows give them; `pattern` tells the point at each place."""
    found = {}
    for row in rows:
        values = [0] * size
        for place, k in enumerate(pattern):
            values[k] = row[place]
        if all([row[place] == values[pattern[place]] for place in range(len(pattern))]):
            found[tuple(values)] = 1
    return found


def relations_of(A, B):
    """For each set of points of `A` that makes up a fact, the values that keep all facts on it.

    The keys are ascending tuples of points, the values dicts whose keys are
    the tuples of their values.
    """
    made = {}
    fitting = {}
    for t, (_, rows) in enumerate(A[1]):
        for row in rows:
            scope = tuple(sorted(set(row)))
            pattern = tuple([scope.index(x) for x in row])
            if (t, pattern) not in fitting:
                fitting[(t, pattern)] = _fitting_values(B[1][t][1], pattern, len(scope))
            told = fitting[(t, pattern)]
            if scope in made:
                told = {values: 1 for values in made[scope] if values in told}
            made[scope] = told
    return made


def value_masks(relation):
    """For each tuple of values but the last one the mask of the last values that the relation has behind them."""
    masks = {}
    for values in relation:
        masks[values[:-1]] = masks.get(values[:-1], 0) | 1 << values[-1]
    return masks


def _fits(fact, row, held):
    """True if the row takes the fact's points, equal ones to equal ones, to the held values."""
    values = {}
    for x, b in zip(fact, row):
        if values.setdefault(x, held.get(x, b)) != b:
            return False
    return True


def openings_of(B, t, fact, held, told):
    """The openings of a fact of the table `t` under held values; `told` keeps what is known."""
    key = (t, tuple([fact.index(x) for x in fact]), tuple([held.get(x, -1) for x in fact]))
    if key not in told:
        told[key] = tuple([row for row in B[1][t][1] if _fits(fact, row, held)])
    return told[key]


def take_away(A):
    """The pair of the taking-away order and its width (point 2.2)."""
    near = [{p: True for p in points} for points in points_joined(A)]
    left = {x: True for x in range(A[0])}
    order = []
    width = 0
    while left:
        x = min(left, key=lambda p: (len(near[p]), p))
        others = list(near[x])
        width = max(width, len(others))
        for y in others:
            near[y].update({z: True for z in others if z != y})
            del near[y][x]
        del left[x]
        order.append(x)
    return tuple(order), width


def _columns(numbers, k, n):
    """The numbers as lists over the values at the place `k`, by the values at the other places."""
    made = {}
    for values, number in numbers.items():
        others = values[:k] + values[k + 1:]
        if others not in made:
            made[others] = [0] * n
        made[others][values[k]] = number
    return made


def _met(values, column, tables):
    """The column times those of the tables at the values, or None if it is zero."""
    for places, columns in tables:
        key = values if len(places) == len(values) else tuple([values[k] for k in places])
        other = columns.get(key)
        if other is None:
            return None
        column = [a * b for a, b in zip(column, other)]
    return column if any(column) else None


def _extended(rows, tables, n):
    """The rows with one value more, and the columns of the tables that are told by then."""
    made = []
    for values, column in rows:
        for v in range(n):
            longer = values + (v,)
            product_column = _met(longer, column, tables)
            if product_column is not None:
                made.append((longer, product_column))
    return made


def _summed(x, near, n):
    """The table that is left of the tables that speak of `x`, the values of `x` added up."""
    scope = tuple(sorted({y for points, _ in near for y in points if y != x}))
    column = [1] * n
    ready = [[] for _ in scope]
    for points, numbers in near:
        columns = _columns(numbers, points.index(x), n)
        places = [scope.index(y) for y in points if y != x]
        if places:
            ready[places[-1]].append((places, columns))
        else:
            column = [a * b for a, b in zip(column, columns.get((), [0] * n))]
    rows = [((), column)]
    for tables in ready:
        rows = _extended(rows, tables, n)
    return scope, {values: sum(told) for values, told in rows}


def count_along(order, A, B):
    """The number of maps of `A` into `B`, the points of `A` taken in this order (point 2.2)."""
    tables = list(relations_of(A, B).items())
    total = 1
    for x in order:
        near = [table for table in tables if x in table[0]]
        tables = [table for table in tables if x not in table[0]]
        scope, numbers = _summed(x, near, B[0])
        if scope:
            tables.append((scope, numbers))
        else:
            total = total * numbers.get((), 0)
    return total


def linked_points(joined, starts):
    """The points that are linked with one of the starts, these among them, ascending."""
    parts = linked_parts(list(range(len(joined))), joined)
    return sorted([x for part in parts if any([start in part for start in starts]) for x in part])


def _merged(found, parts, most):
    """The dicts of `found`, each with each of `parts` put to it, at most `most` of them."""
    made = []
    for one in found:
        for other in parts:
            if len(made) == most:
                return made
            made.append({**one, **other})
    return made


class MapSearch:
    """The maps of `A` into `B`, looked for by lists that each fact keeps small."""

    def __init__(self, A, B):
        self.points = tuple(range(A[0]))
        self.many = B[0]
        self.tables = [rows for _, rows in B[1]]
        self.joined = points_joined(A)
        self.lists = [(1 << B[0]) - 1] * A[0]
        self.rules = []
        self.rules_at = [[] for _ in range(A[0])]
        self.told_members = {}
        self.told_swaps = {}
        for scope, relation in relations_of(A, B).items():
            self._take_relation(scope, relation)

    def _take_relation(self, scope, relation):
        masks = value_masks(relation)
        if len(scope) == 1:
            self.lists[scope[0]] = self.lists[scope[0]] & masks.get((), 0)
            return
        for x in scope:
            self.rules_at[x].append(len(self.rules))
        self.rules.append((scope, masks))

    def take_rule(self, scope, relation, rows):
        """Adds a rule for an ascending tuple of points; it is told by these rows of points of `B` alone."""
        self._take_relation(scope, relation)
        self.tables.append(rows)
        near = {x: {y: True for y in points} for x, points in enumerate(self.joined)}
        for x in scope:
            near[x].update({y: True for y in scope if y != x})
        self.joined = tuple([tuple(sorted(near[x])) for x in self.points])

    def members(self, mask):
        """The points of a mask, ascending."""
        if mask not in self.told_members:
            self.told_members[mask] = [v for v in range(self.many) if mask >> v & 1 == 1]
        return self.told_members[mask]

    def kept_by(self, k, lists):
        """The masks of the points of the rule `k` that a row within the lists supports."""
        scope, masks = self.rules[k]
        heads = [(b,) for b in self.members(lists[scope[0]])]
        if len(scope) == 3:
            heads = [head + (c,) for head in heads for c in self.members(lists[scope[1]])]
        kept = [0] * len(scope)
        for head in heads:
            meet = masks.get(head, 0) & lists[scope[-1]]
            if meet != 0:
                kept[-1] = kept[-1] | meet
                for place, b in enumerate(head):
                    kept[place] = kept[place] | 1 << b
        return kept

    def settled(self, lists, points):
        """The lists, made small from the changed points on; None if one becomes empty."""
        lists = list(lists)
        queued = {k: True for x in points for k in self.rules_at[x]}
        waiting = list(queued)
        while waiting:
            k = waiting.pop()
            del queued[k]
            kept = self.kept_by(k, lists)
            for x, mask in zip(self.rules[k][0], kept):
                if mask == 0:
                    return None
                if mask != lists[x]:
                    lists[x] = mask
                    fresh = [j for j in self.rules_at[x] if j != k and j not in queued]
                    queued.update({j: True for j in fresh})
                    waiting.extend(fresh)
        return lists

    def settled_with(self, lists, x, v):
        """The lists with the one value `v` at `x`, made small; None if one becomes empty."""
        trial = list(lists)
        trial[x] = 1 << v
        return self.settled(trial, (x,))

    def started(self, lists):
        """The lists made small from all points on; None if one is empty."""
        if 0 in lists:
            return None
        return self.settled(lists, self.points)

    def open_pieces(self, lists, points):
        """The parts of those of the points that have more than one value, linked by facts."""
        return linked_parts([x for x in points if lists[x] & (lists[x] - 1) != 0], self.joined)

    def narrowest(self, lists, piece):
        """The point with the fewest values, of these the one joined with the most points."""
        return min(piece, key=lambda x: (len(self.members(lists[x])), -len(self.joined[x])))

    def can_swap(self, v, w):
        """True if `B` stays as it is when its points `v` and `w` are exchanged."""
        if (v, w) not in self.told_swaps:
            f = list(range(self.many))
            f[v] = w
            f[w] = v
            self.told_swaps[(v, w)] = all([image_rows(rows, f) == rows for rows in self.tables])
        return self.told_swaps[(v, w)]

    def swap_classes(self):
        """For each point of `B` the ascending list of the points with which it can be exchanged, and itself."""
        profiles = [[0] * self.many for _ in range(3 * len(self.tables))]
        for t, rows in enumerate(self.tables):
            for row in rows:
                for place, v in enumerate(row):
                    profiles[3 * t + place][v] += 1
        classes = [[] for _ in range(self.many)]
        for v in range(self.many):
            # Points that can be exchanged stand equally often at each place.
            alike = [w for w in range(v) if classes[w][0] == w and all([told[v] == told[w] for told in profiles])]
            first = [w for w in alike if self.can_swap(w, v)]
            classes[v] = classes[first[0]] if first else classes[v]
            classes[v].append(v)
        return classes

    def _is_like_failed(self, lists, piece, v, failed):
        """True if `v` stands wherever a value stands that has failed, and they can be exchanged."""
        near = {y: True for x in piece for y in self.joined[x] + (x,)}
        for w in failed:
            if self.can_swap(w, v) and all([lists[y] >> v & 1 == lists[y] >> w & 1 for y in near]):
                return True
        return False

    def found_in(self, lists, points, most):
        """Dicts of the values of the points, for at most `most` maps within settled lists."""
        found = [{x: self.members(lists[x])[0] for x in points if lists[x] & (lists[x] - 1) == 0}]
        pieces = self.open_pieces(lists, points)
        if most > 1 and len(pieces) > 1:
            # Without this a piece with many maps might be listed in vain.
            for piece in pieces:
                if not self._found_of(lists, piece, 1):
                    return []
        for piece in pieces:
            found = _merged(found, self._found_of(lists, piece, most), most)
            if not found:
                return []
        return found

    def _found_of(self, lists, piece, most):
        x = self.narrowest(lists, piece)
        found = []
        failed = []
        for v in self.members(lists[x]):
            if len(found) == most:
                break
            if self._is_like_failed(lists, piece, v, failed):
                continue
            trial = self.settled_with(lists, x, v)
            parts = [] if trial is None else self.found_in(trial, piece, most - len(found))
            found.extend(parts)
            if not parts:
                failed.append(v)
        return found

    def is_solvable_within(self, points):
        """True if a map has all its values among these points of `B`."""
        mask = sum([1 << v for v in points])
        lists = self.started([mask & told for told in self.lists])
        return lists is not None and len(self.found_in(lists, self.points, 1)) == 1

    def all_found(self, most):
        """A list of all maps, in any order; of `most` maps if there are more."""
        lists = self.started(self.lists)
        if lists is None:
            return []
        found = self.found_in(lists, self.points, most)
        return [tuple([row[x] for x in self.points]) for row in found]

    def least(self):
        """The least map, or None if there is none."""
        lists = self.started(self.lists)
        found = [] if lists is None else self.found_in(lists, self.points, 1)
        if not found:
            return None
        values = found[0]
        for x in self.points:
            values = self._better(lists, values, x)
            lists = self.settled_with(lists, x, values[x])
        return tuple([values[x] for x in self.points])

    def _better(self, lists, values, x):
        """The values of a map within the lists with the least one at `x`; the told ones if they have it."""
        for v in self.members(lists[x]):
            if v == values[x]:
                break
            trial = self.settled_with(lists, x, v)
            found = [] if trial is None else self.found_in(trial, self.points, 1)
            if found:
                return found[0]
        return values
