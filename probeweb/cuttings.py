"""Planes and cuttings (points 5.7 to 5.9)."""

from probeweb.errors import Malformed
from probeweb.refutations import is_choice, is_fact_index, refuted_nogood
from probeweb.refuting import used_rows
from probeweb.solving import openings_of
from probeweb.structures import check_alike, is_ascending, is_pair, is_point, is_point_tuple
from probeweb.whole import is_integer, is_number_from


def _is_item(A, B, value):
    """True for a choice with an integer other than 0."""
    return is_pair(value) and is_choice(A, B, value[0]) and is_integer(value[1]) and value[1] != 0


def _is_plane(A, B, value):
    """True for a plane, for every value."""
    if not (is_pair(value) and isinstance(value[0], tuple) and is_integer(value[1])):
        return False
    items = value[0]
    return all([_is_item(A, B, item) for item in items]) and is_ascending([choice for choice, _ in items])


def _some_plane(x, many):
    return tuple([((x, v), 1) for v in range(many)]), 1


def _forbidding_plane(nogood):
    """The plane that says that not all choices are met."""
    return tuple([(choice, -1) for choice in nogood]), 1 - len(nogood)


def _image_plane(fact, images):
    values = {x: v for x, v in zip(fact, images)}
    return _forbidding_plane(sorted(values.items()))


def _sum_plane(planes, terms):
    """The sum of the planes with the told indexes, each multiplied by its number."""
    total = {}
    bound = 0
    for j, m in terms:
        items, least = planes[j]
        bound += m * least
        for choice, c in items:
            total[choice] = total.get(choice, 0) + m * c
    return tuple([(choice, total[choice]) for choice in sorted(total) if total[choice] != 0]), bound


def _cut_plane(plane, d):
    items, bound = plane
    return tuple([(choice, c // d) for choice, c in items]), -(-bound // d)


def _told_by_choice(A, B, word, args):
    """The plane of a reason "some", "least" or "most", or None."""
    if word == "some":
        return _some_plane(args[0], B[0]) if len(args) == 1 and is_point(args[0], A[0]) else None
    if not is_choice(A, B, args):
        return None
    return (((args, 1),), 0) if word == "least" else (((args, -1),), -1)


def _told_by_fact(A, B, args):
    """The plane of a reason "fact", or None."""
    if len(args) != 3 or not is_fact_index(A, args[0], args[1]):
        return None
    t, i, images = args
    fact = A[1][t][1][i]
    if not is_point_tuple(images, B[0], len(fact)) or images in B[1][t][1]:
        return None
    values = {}
    for x, v in zip(fact, images):
        if values.setdefault(x, v) != v:
            return None
    return _image_plane(fact, images)


def _is_term(value, k):
    return is_pair(value) and is_point(value[0], k) and is_number_from(value[1], 1)


def _told_by_sum(planes, args):
    """The plane of a reason "sum", or None."""
    if len(args) != 1 or not (isinstance(args[0], tuple) and len(args[0]) > 0):
        return None
    terms = args[0]
    if not all([_is_term(term, len(planes)) for term in terms]) or not is_ascending([j for j, _ in terms]):
        return None
    return _sum_plane(planes, terms)


def _told_by_cut(planes, args):
    """The plane of a reason "cut", or None."""
    if len(args) != 2 or not (is_point(args[0], len(planes)) and is_number_from(args[1], 2)):
        return None
    j, d = args
    if any([c % d != 0 for _, c in planes[j][0]]):
        return None
    return _cut_plane(planes[j], d)


def _told_plane(A, B, planes, reason):
    """The plane that a reason tells, the earlier ones at hand; None for what is no reason."""
    if not (isinstance(reason, tuple) and len(reason) > 0):
        return None
    word, args = reason[0], reason[1:]
    if word == "fact":
        return _told_by_fact(A, B, args)
    if word == "sum":
        return _told_by_sum(planes, args)
    if word == "cut":
        return _told_by_cut(planes, args)
    if word == "some" or word == "least" or word == "most":
        return _told_by_choice(A, B, word, args)
    return None


def ending_plane(A, B, value):
    """The plane with which the value ends if it is a cutting, else None, for every value."""
    check_alike(A, B)
    if not (isinstance(value, tuple) and len(value) > 0):
        return None
    planes = []
    for row in value:
        if not (is_pair(row) and _is_plane(A, B, row[0])):
            return None
        if row[0] != _told_plane(A, B, planes, row[1]):
            return None
        planes.append(row[0])
    return planes[-1]


class CuttingMaker:
    """The rows of a cutting in the making, each with the plane that its reason tells."""

    def __init__(self, A, B):
        self.source = A
        self.target = B
        self.many = B[0]
        self.openings = [{row: True for row in rows} for _, rows in B[1]]
        self.planes = []
        self.reasons = []
        self.numbers = {}

    def row_of(self, reason):
        """The index of a row with the reason, which is put to the rows if it is a new one."""
        if reason not in self.numbers:
            self.numbers[reason] = len(self.planes)
            self.planes.append(_told_plane(self.source, self.target, self.planes, reason))
            self.reasons.append(reason)
        return self.numbers[reason]

    def sum_of(self, counts):
        """The index of a row with the sum of rows; `counts` tells how often each one is added."""
        return self.row_of(("sum", tuple(sorted(counts.items()))))

    def _weakened(self, j, held, nogood):
        """The index of a row for the nogood; the nogood `held` of the row `j` is within it."""
        missing = [choice for choice in nogood if choice not in held]
        if not missing:
            return j
        counts = {j: 1}
        for x, v in missing:
            counts[self.row_of(("most", x, v))] = 1
        return self.sum_of(counts)

    def by_point(self, nogood, x, parts):
        """The index of a row for the nogood, from pairs of a row and its nogood, one for each value of `x`."""
        for v, (j, held) in enumerate(parts):
            if (x, v) not in held:
                return self._weakened(j, held, nogood)
        counts = {}
        for j, held in parts:
            counts[j] = counts.get(j, 0) + 1
            for y, w in nogood:
                if (y, w) not in held:
                    most = self.row_of(("most", y, w))
                    counts[most] = counts.get(most, 0) + 1
        counts[self.row_of(("some", x))] = 1
        total = self.sum_of(counts)
        return self.row_of(("cut", total, self.many)) if self.many > 1 and nogood else total

    def _by_images(self, t, i, held, free, parts):
        """The pair of a row and its nogood, which is within the held choices.

        The free points are those of the fact that are not held; `parts` has
        for each opening of the fact the pair of a row and its nogood.
        """
        fact = self.source[1][t][1][i]
        if not free:
            images = tuple([held[x] for x in fact])
            if images in self.openings[t]:
                return parts[images]
            nogood = tuple([(x, held[x]) for x in sorted(set(fact))])
            return self.row_of(("fact", t, i, images)), nogood
        x = free[0]
        cases = []
        for v in range(self.many):
            case = self._by_images(t, i, {**held, x: v}, free[1:], parts)
            if (x, v) not in case[1]:
                return case
            cases.append(case)
        nogood = tuple(sorted({choice for _, told in cases for choice in told if choice[0] != x}))
        return self.by_point(nogood, x, cases), nogood

    def by_fact(self, nogood, t, i, parts):
        """The index of a row for the nogood, from the rows of the openings of a fact."""
        held = dict(nogood)
        free = [x for x in sorted(set(self.source[1][t][1][i])) if x not in held]
        j, told = self._by_images(t, i, held, free, parts)
        return self._weakened(j, told, nogood)

    def rows_to(self, end):
        """The cutting that ends with the row."""
        return tuple([(self.planes[k], self.reasons[k]) for k in range(end + 1)])


def _parts_of(A, B, rows, k, made):
    """The pairs of the row of a cutting and its nogood, for the rows that a row of a refutation names.

    They stand by the openings for the reason "fact".
    """
    nogood, reason = rows[k]
    parts = [(made[j], rows[j][0]) for j in reason[-1]]
    if reason[0] == "point":
        return parts
    held = dict(nogood)
    fact = A[1][reason[1]][1][reason[2]]
    return {row: part for row, part in zip(openings_of(B, reason[1], fact, held, {}), parts)}


def cutting_from(A, B, rows):
    """A cutting that ends with the plane of the nogood with which a refutation ends."""
    if refuted_nogood(A, B, rows) is None:
        raise Malformed("no refutation")
    maker = CuttingMaker(A, B)
    made = {}
    for k in used_rows(rows):
        nogood, reason = rows[k]
        parts = _parts_of(A, B, rows, k, made)
        if reason[0] == "point":
            made[k] = maker.by_point(nogood, reason[1], parts)
        else:
            made[k] = maker.by_fact(nogood, reason[1], reason[2], parts)
    return maker.rows_to(made[len(rows) - 1])


def _barring_fact(A, B, x, y, v, told):
    """The table and index of a fact that forbids the image `v` for both points, or None."""
    for t, (_, rows) in enumerate(A[1]):
        for i, fact in enumerate(rows):
            if x in fact and y in fact and not openings_of(B, t, fact, {x: v, y: v}, told):
                return t, i
    return None


def _barring_facts(A, B):
    """For each two points and each value a fact that forbids it for both; None if there is none somewhere."""
    found = {}
    told = {}
    for y in range(A[0]):
        for x in range(y):
            for v in range(B[0]):
                fact = _barring_fact(A, B, x, y, v, told)
                if fact is None:
                    return None
                found[(x, y, v)] = fact
    return found


def crowded_cutting(A, B):
    """A cutting that refutes `A` and `B`, if all points must have unlike images and there are too few; else None.

    It is that of point 5.9, without a check.
    """
    barred = _barring_facts(A, B) if A[0] > B[0] else None
    if barred is None:
        return None
    maker = CuttingMaker(A, B)
    counts = {maker.row_of(("some", x)): 1 for x in range(A[0])}
    for v in range(B[0]):
        told = -1
        for y in range(1, A[0]):
            pairs = [maker.by_fact(((x, v), (y, v)), barred[(x, y, v)][0], barred[(x, y, v)][1], {}) for x in range(y)]
            if y == 1:
                told = pairs[0]
            else:
                terms = {j: 1 for j in pairs}
                terms[told] = y - 1
                told = maker.row_of(("cut", maker.sum_of(terms), y))
        counts[told] = 1
    return maker.rows_to(maker.sum_of(counts))
