"""Numbers of maps beyond a bound, and of maps that are one to one, without listing them (chapter 2)."""

from probeweb.errors import Refused
from probeweb.solving import MapSearch, relations_of, value_masks
from probeweb.whole import falling_number

# The steps after which a number that is not told by then is left to the search.
MOST_STEPS = 5000
# As many maps are listed without being counted first.
MOST_AT_ONCE = 1000


class MapCount:
    """The number of the maps that a search may find, reckoned up to a bound and by a bounded number of steps.

    Pieces of points that are left with the same lists have the same numbers.
    """

    def __init__(self, search, most):
        self.search = search
        self.beyond = most + 1
        self.steps = 0
        self.told = {}
        # A rule of three points with one value held tells more of the two others than their lists do.
        self.thirds = [{} for _ in search.points]
        for scope, _ in search.rules:
            if len(scope) == 3:
                for x in scope:
                    self.thirds[x].update({y: True for y in scope})

    def is_beyond(self):
        """True if there are surely more maps than the bound."""
        lists = self.search.started(self.search.lists)
        return lists is not None and self._number_in(lists, self.search.points) == self.beyond

    def _number_in(self, lists, points):
        """The number of maps within settled lists, on these points; at most the number beyond the bound."""
        number = 1
        for piece in self.search.open_pieces(lists, points):
            number = number * self._number_of(lists, piece)
        return min(number, self.beyond)

    def _number_of(self, lists, piece):
        near = {y: True for x in piece for y in [x] + list(self.thirds[x])}
        key = tuple([(y, lists[y]) for y in sorted(near)])
        if key not in self.told:
            self.told[key] = self._summed(lists, piece)
        return self.told[key]

    def _widest(self, lists, piece):
        """The point joined with the most others of the piece: without it the piece falls apart the soonest."""
        inside = {x: True for x in piece}
        joined = {x: len([y for y in self.search.joined[x] if y in inside]) for x in piece}
        return min(piece, key=lambda x: (-joined[x], len(self.search.members(lists[x])), x))

    def _summed(self, lists, piece):
        x = self._widest(lists, piece)
        number = 0
        for v in self.search.members(lists[x]):
            self.steps += 1
            if number >= self.beyond or self.steps > MOST_STEPS:
                break
            trial = self.search.settled_with(lists, x, v)
            if trial is not None:
                number += self._number_in(trial, piece)
        return min(number, self.beyond)


def listed_maps(search, most):
    """The ascending tuple of all maps that a search finds, refused if there are more than `most`."""
    few = min(MOST_AT_ONCE, most)
    found = search.all_found(few + 1)
    if len(found) <= few:
        return tuple(sorted(found))
    # To count so many first takes less time than to list them in vain.
    if MapCount(search, most).is_beyond():
        raise Refused("many")
    found = search.all_found(most + 1)
    if len(found) > most:
        raise Refused("many")
    return tuple(sorted(found))


def _unlike_rules(A, B):
    """For each point of `A` the tables that tell its values from those of lesser points.

    A table is a pair of these points and a dict from their values to the
    mask of the values that are left. What all unlike values keep is no rule
    for maps that are one to one.
    """
    rules = [[] for _ in range(A[0])]
    for scope, relation in relations_of(A, B).items():
        unlike = [values for values in relation if len(set(values)) == len(values)]
        if len(unlike) < falling_number(B[0], len(scope)):
            rules[scope[-1]].append((scope[:-1], value_masks(unlike)))
    return rules


def _fronts(rules):
    """For each point the points up to it whose values a later rule asks for."""
    fronts = []
    for x in range(len(rules)):
        asked = {y: True for later in rules[x + 1:] for points, _ in later for y in points}
        fronts.append([y for y in range(x + 1) if y in asked])
    return fronts


def _fresh_values(used, classes):
    """The least value that is not used of each class, and how many of the class are not used."""
    found = []
    for v, alike in enumerate(classes):
        left = [w for w in alike if used >> w & 1 == 0]
        if left and left[0] == v:
            found.append((v, len(left)))
    return found


def unlike_number(A, B):
    """The number of the maps of `A` into `B` that are one to one, point by point.

    Beginnings with the same used values, and the same values at the points
    that are asked for later, are counted together. Of values that can be
    exchanged and are not used the least one stands for all.
    """
    classes = MapSearch(A, B).swap_classes()
    rules = _unlike_rules(A, B)
    front = []
    states = {(0, ()): 1}
    for x, further in enumerate(_fronts(rules)):
        longer = front + [x]
        spots = [([front.index(y) for y in points], masks) for points, masks in rules[x]]
        kept = [longer.index(y) for y in further]
        after = {}
        for (used, values), number in states.items():
            left = (1 << B[0]) - 1
            for places, masks in spots:
                left = left & masks.get(tuple([values[k] for k in places]), 0)
            for v, many in _fresh_values(used, classes):
                if left >> v & 1 == 1:
                    told = values + (v,)
                    key = (used | 1 << v, tuple([told[k] for k in kept]))
                    after[key] = after.get(key, 0) + many * number
        front = further
        states = after
    return sum(list(states.values()))
