"""The search for turnings, the chain of a structure, and maps that turnings leave as they are (chapter 9)."""

from probeweb.errors import Refused
from probeweb.pairing import ALL_ROUNDS, all_items, numbered_tables, refined_tables
from probeweb.solving import count_along, take_away

MOST_LOOKED_AT = 200000


def _pair_marks(A):
    """For each pair of points all places at which rows have one of them, in rows that have both."""
    n = A[0]
    marks = [[[(-1, (1 if p == q else 0,))] for q in range(n)] for p in range(n)]
    for t, (_, rows) in enumerate(A[1]):
        for row in rows:
            for x in sorted(set(row)):
                for y in sorted(set(row)):
                    marks[x][y].append((t, tuple([(1 if z == x else 0) + (2 if z == y else 0) for z in row])))
    return [[tuple(sorted(told)) for told in line] for line in marks]


def _unlike_rows(A):
    """The pairs of a table and a row of three unlike points."""
    return [(t, row) for t, (_, rows) in enumerate(A[1]) for row in rows if len(set(row)) == 3]


def _third_masks(rows):
    """For each table, place and points at the two other places, in order, the mask of the points at the place."""
    masks = {}
    for t, row in rows:
        for place in range(3):
            key = (t, place, row[:place] + row[place + 1:])
            masks[key] = masks.get(key, 0) | 1 << row[place]
    return masks


class TurningSearch:
    """The turnings of `A` into `B`, looked for point by point.

    The images of the points to come are kept in masks: colours of pairs make
    them smaller, which all turnings keep, and rows of three unlike points
    two of which have their images.
    """

    def __init__(self, A, B):
        self.many = A[0]
        self.looked = 0
        one, two = numbered_tables(_pair_marks(A), _pair_marks(B))
        self.colours, further = refined_tables(one, two, ALL_ROUNDS)
        self.is_open = A[0] == B[0] and all_items(self.colours) == all_items(further)
        self.masks = [_colour_masks(line) for line in further]
        alone = _colour_masks([further[y][y] for y in range(B[0])])
        self.start = [alone.get(self.colours[x][x], 0) for x in range(A[0])]
        rows = _unlike_rows(B)
        self.thirds = _third_masks(rows)
        self.rows_at = [[fact[1] for fact in rows if y in fact[1]] for y in range(B[0])]
        self.rules = [[] for _ in range(A[0])]
        self.ended = [0] * A[0]
        for t, row in _unlike_rows(A):
            _, x, last = sorted(row)
            place = row.index(last)
            self.rules[x].append((last, t, place, row[:place] + row[place + 1:]))
            self.ended[last] += 1

    def taken(self, values, masks):
        """The masks behind the values, whose last one is new; None if they cannot be continued."""
        self.looked += 1
        if self.looked > MOST_LOOKED_AT:
            raise Refused("large")
        x, y = len(values) - 1, values[-1]
        after = list(masks)
        for z in range(x + 1, self.many):
            after[z] = after[z] & self.masks[y].get(self.colours[x][z], 0)
        for last, t, place, others in self.rules[x]:
            key = (t, place, tuple([values[a] for a in others]))
            after[last] = after[last] & self.thirds.get(key, 0)
        # As many rows as in `A` must have all their points among the images.
        images = {b: True for b in values}
        met = [row for row in self.rows_at[y] if all([b in images for b in row])]
        return None if 0 in after[x + 1:] or len(met) != self.ended[x] else after

    def least(self, values, masks):
        """The least turning that begins with the values, or None."""
        x = len(values)
        if x == self.many:
            return values
        for y in range(self.many):
            if masks[x] >> y & 1 == 1:
                found = self.least_with(values + (y,), masks)
                if found is not None:
                    return found
        return None

    def least_with(self, values, masks):
        """As `least`, for masks behind all values but the last one."""
        after = self.taken(values, masks)
        return None if after is None else self.least(values, after)


def _colour_masks(colours):
    """For each colour the mask of the places that have it."""
    masks = {}
    for y, colour in enumerate(colours):
        masks[colour] = masks.get(colour, 0) | 1 << y
    return masks


def joined_orbits(n, turnings):
    """For each point the least point of its orbit under the turnings."""
    least = list(range(n))
    for m in turnings:
        for x in range(n):
            one, two = least[x], least[m[x]]
            if one != two:
                least = [min(one, two) if told in (one, two) else told for told in least]
    return least


def chain_of(A):
    """The chain of `A`, the search for it made with one bound."""
    search = TurningSearch(A, A)
    known = tuple(range(A[0]))
    masks = [search.start]
    for i in range(A[0]):
        masks.append(search.taken(known[:i + 1], masks[i]))
    links = []
    turnings = []
    for i in reversed(range(A[0])):
        link = [(i, known)]
        # Points of one orbit of the turnings that leave `i` are all met, or none of them is.
        least = joined_orbits(A[0], turnings)
        failed = {}
        for j in range(i + 1, A[0]):
            found = None
            if least[j] not in failed and masks[i][i] >> j & 1 == 1:
                found = search.least_with(known[:i] + (j,), masks[i])
            if found is None:
                failed[least[j]] = True
            else:
                link.append((j, found))
        links.append(tuple(link))
        turnings.extend([m for _, m in link[1:]])
    return tuple(links[::-1])


def powers_of(m, most):
    """The powers 0 to `most` of a turning."""
    powers = [tuple(range(len(m)))]
    for _ in range(most):
        powers.append(tuple([m[y] for y in powers[-1]]))
    return powers


def rounds_of(m):
    """The rounds of a turning, lists that begin with their least points, ascending."""
    met = {}
    rounds = []
    for x in range(len(m)):
        if x not in met:
            line = [x]
            while m[line[-1]] != x:
                line.append(m[line[-1]])
            met.update({y: True for y in line})
            rounds.append(line)
    return rounds


def map_count(A, B):
    """The number of maps of `A` into `B`, for any number of tables and without a bound."""
    return count_along(take_away(A)[0], A, B)


def _led_back(rows, turnings):
    """The rows from which the turnings, one for each place, lead to the told rows."""
    back = [{y: x for x, y in enumerate(turning)} for turning in turnings]
    return tuple([tuple([back[place][v] for place, v in enumerate(row)]) for row in rows])


def fixed_count(A, B, m, powers):
    """The number of maps `f` with `f(m(x)) = l(f(x))` for all `x`; `powers` are those of `l`.

    Such a map is told by its values at the first points of the rounds of `m`.
    They are the points of another instance: each fact of `A` becomes one of
    them, in a table of its own for each tuple of steps along the rounds.
    """
    rounds = rounds_of(m)
    spots = {x: (k, step) for k, line in enumerate(rounds) for step, x in enumerate(line)}
    tables = []
    for k, line in enumerate(rounds):
        # The step behind the last one comes back to the first point.
        left = [(v,) for v, w in enumerate(powers[len(line)]) if v == w]
        tables.append((1, {(k,): True}, left))
    numbers = {}
    for t, (arity, rows) in enumerate(A[1]):
        for row in rows:
            steps = tuple([spots[x][1] for x in row])
            if (t, steps) not in numbers:
                numbers[(t, steps)] = len(tables)
                tables.append((arity, {}, _led_back(B[1][t][1], [powers[step] for step in steps])))
            tables[numbers[(t, steps)]][1][tuple([spots[x][0] for x in row])] = True
    one = (len(rounds), tuple([(arity, tuple(facts)) for arity, facts, _ in tables]))
    two = (B[0], tuple([(arity, tuple(images)) for arity, _, images in tables]))
    return map_count(one, two)
