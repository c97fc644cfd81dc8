"""The search for orders of the least width and for the thickets that show it (chapter 12).

Sets of points are masks here: integers whose binary digit `x` is 1 if the
point `x` is in the set. `near` has for each point the mask of the points
that are joined with it.
"""

from probeweb.structures import ascending_choices


def _lowest(mask):
    """The least point of a set."""
    return (mask & -mask).bit_length() - 1


def _members(mask):
    """The points of a set, ascending."""
    points = []
    while mask != 0:
        points.append(_lowest(mask))
        mask = mask & (mask - 1)
    return points


def _united(near, mask):
    """All points that are joined with a point of the set."""
    met = 0
    for x in _members(mask):
        met = met | near[x]
    return met


def _part_of(near, start, within):
    """The points that are linked with a set through points of another set, those of the first among them."""
    part = start
    fresh = start
    while fresh != 0:
        fresh = _united(near, fresh) & within & ~part
        part = part | fresh
    return part


def _sizes(n):
    """The number of points of each set."""
    sizes = [0]
    for mask in range(1, 1 << n):
        sizes.append(sizes[mask >> 1] + (mask & 1))
    return sizes


def least_elimination(near):
    """An order of the least width, found set by set of the points that are taken away first."""
    n = len(near)
    sizes = _sizes(n)
    widths = [-1]
    lasts = [-1]
    for gone in range(1, 1 << n):
        best = n
        last = -1
        for x in _members(gone):
            before = gone & ~(1 << x)
            if widths[before] < best:
                part = _part_of(near, 1 << x, before)
                left = sizes[_united(near, part) & ~gone]
                if max(widths[before], left) < best:
                    best = max(widths[before], left)
                    last = x
        widths.append(best)
        lasts.append(last)
    order = []
    gone = (1 << n) - 1
    while gone != 0:
        order.append(lasts[gone])
        gone = gone & ~(1 << lasts[gone])
    return tuple(order[::-1])


def _parts_without(near, taken):
    """The parts that hang together when some points are taken away."""
    left = ((1 << len(near)) - 1) & ~taken
    parts = []
    while left != 0:
        part = _part_of(near, left & -left, left)
        parts.append(part)
        left = left & ~part
    return parts


class MemberSearch:
    """One part for each set of `width` points that is taken away, such that all of them touch.

    Without the points of a set that is one too small to meet all members of
    a thicket, one member is left; it may be taken as great as the part that
    it is in. `parts` are all parts, numbered; sets of them are masks, too.
    """

    def __init__(self, near, width):
        numbers = {}
        choices = {}
        for points in ascending_choices(len(near), width):
            taken = sum([1 << x for x in points])
            mask = 0
            for part in _parts_without(near, taken):
                mask = mask | 1 << numbers.setdefault(part, len(numbers))
            choices[mask] = True
        self.parts = list(numbers)
        self.choices = list(choices)
        reached = [told | _united(near, told) for told in self.parts]
        self.touching = [sum([1 << k for k, told in enumerate(self.parts) if told & reach != 0]) for reach in reached]

    def settled(self, alive):
        """The parts of `alive` that touch one of each choice; 0 if a choice has none of them."""
        changed = True
        while changed:
            changed = False
            for choice in self.choices:
                if choice & alive == 0:
                    return 0
            for k in _members(alive):
                if any([choice & alive & self.touching[k] == 0 for choice in self.choices]):
                    alive = alive & ~(1 << k)
                    changed = True
        return alive

    def found(self, alive):
        """The parts of `alive`, one of each choice, which all touch, as a mask; 0 if there are none."""
        alive = self.settled(alive)
        if alive == 0:
            return 0
        left = [_members(choice & alive) for choice in self.choices]
        undecided = [parts for parts in left if len(parts) > 1]
        if not undecided:
            return alive
        for k in min(undecided, key=lambda parts: (len(parts), parts)):
            told = self.found(alive & self.touching[k])
            if told != 0:
                return told
        return 0


def widest_members(near, width):
    """The members of a thicket that no set of `width` points meets, as masks; there is one if `width` is the width."""
    search = MemberSearch(near, width)
    alive = search.found((1 << len(search.parts)) - 1)
    return [search.parts[k] for k in _members(alive)]
