"""Layers: sets of tuples as the ways through a row of layers of nodes (chapter 13)."""

from probeweb.errors import Malformed, Refused
from probeweb.solving import relations_of, value_masks
from probeweb.structures import check_alike, is_point_tuple, joined_points
from probeweb.whole import is_integer, raised_to

MOST_LENGTH = 12
MOST_VALUES = 8
MOST_FRONT_STATES = 3000
MOST_ROWS = 20000
MOST_PAIRS = 200000


def _is_length(value):
    return is_integer(value) and 1 <= value <= MOST_LENGTH


def _is_value_number(value):
    return is_integer(value) and 1 <= value <= MOST_VALUES


def _is_order(value, n):
    return is_point_tuple(value, n, n) and len(set(value)) == n


def _is_node(value, m, many):
    """True for a tuple of `m` integers from -1 to `many - 1` that are not all -1."""
    if not (isinstance(value, tuple) and len(value) == m):
        return False
    if not all([is_integer(item) and -1 <= item < many for item in value]):
        return False
    return any([item >= 0 for item in value])


def _are_layers(layers, m):
    """True for layers of nodes that are unlike, all met, and numbered in the order in which they are met."""
    if all([layer == () for layer in layers]):
        return True
    if len(layers[0]) != 1:
        return False
    for i, layer in enumerate(layers):
        is_last = i == len(layers) - 1
        many = 1 if is_last else len(layers[i + 1])
        if not all([_is_node(node, m, many) for node in layer]):
            return False
        met = _met_items(layer)
        if len(set(layer)) != len(layer) or met != list(range(many)):
            return False
    return True


def _met_items(layer):
    """The unlike items of the nodes, without -1, in the order in which they come first."""
    return list({item: True for node in layer for item in node if item >= 0})


def _is_layers(value):
    if not (isinstance(value, tuple) and len(value) == 3):
        return False
    m, order, layers = value
    if not (_is_value_number(m) and isinstance(order, tuple) and _is_length(len(order))):
        return False
    if not (_is_order(order, len(order)) and isinstance(layers, tuple) and len(layers) == len(order)):
        return False
    return all([isinstance(layer, tuple) for layer in layers]) and _are_layers(layers, m)


def is_layers(value):
    """True for the layers of some set of tuples in some order, for every value."""
    return _is_layers(value)


def _check_layers(value):
    if not _is_layers(value):
        raise Malformed("no layers")


def _merged(stages):
    """The stages with equal nodes made one and nodes without a way to the end left out.

    A stage is a list of nodes, each a list of the numbers of nodes of the
    next stage, or -1; in the last one 0 stands for the end.
    """
    made = []
    names = {0: 0, -1: -1}
    for stage in reversed(stages):
        numbers = {}
        further = {-1: -1}
        for k, node in enumerate(stage):
            told = tuple([names[item] for item in node])
            further[k] = numbers.setdefault(told, len(numbers)) if max(told) >= 0 else -1
        made.append(list(numbers))
        names = further
    return made[::-1], names


def _numbered(stages, start):
    """The layers of the nodes that are met from the start on, in the order in which they are met."""
    met = [start]
    layers = []
    for stage in stages:
        layer = [stage[k] for k in met]
        met = _met_items(layer)
        numbers = {item: k for k, item in enumerate(met)}
        numbers[-1] = -1
        layers.append(tuple([tuple([numbers[item] for item in node]) for node in layer]))
    return tuple(layers)


def _layers_from(m, order, stages):
    """The layers of the ways from the first node of the first stage on."""
    merged, names = _merged(stages)
    if names.get(0, -1) < 0:
        return m, order, ((),) * len(order)
    return m, order, _numbered(merged, names[0])


def _check_map_pair(A, B, order):
    check_alike(A, B)
    if not (_is_length(A[0]) and _is_value_number(B[0]) and _is_order(order, A[0])):
        raise Malformed("no numbers of points for layers, or no order")


def fronts_of(A, order):
    """For each place the front: the earlier points that are joined with one of the others, in order."""
    joined = joined_points(A)
    fronts = []
    for i in range(len(order) + 1):
        others = {x: True for x in order[i:]}
        fronts.append([x for x in order[:i] if any([y in others for y in joined[x]])])
    return fronts


def _rules_along(A, B, order):
    """For each point the rules of its value: the earlier points of a fact, and the masks of the values left."""
    places = {x: k for k, x in enumerate(order)}
    rules = {x: [] for x in order}
    for scope, relation in relations_of(A, B).items():
        turned = sorted(scope, key=lambda x: places[x])
        spots = [scope.index(x) for x in turned]
        masks = value_masks([tuple([values[spot] for spot in spots]) for values in relation])
        rules[turned[-1]].append((turned[:-1], masks))
    return rules


def _node_of(state, front, rules, m):
    """The pair of the values at the front as a dict and the mask of the values that may come next."""
    held = {x: v for x, v in zip(front, state)}
    mask = (1 << m) - 1
    for points, masks in rules:
        mask = mask & masks.get(tuple([held[x] for x in points]), 0)
    return held, mask


def layers_of_maps(A, B, order):
    """The layers of the maps of `A` into `B`."""
    _check_map_pair(A, B, order)
    m = B[0]
    fronts = fronts_of(A, order)
    if any([raised_to(m, len(front)) > MOST_FRONT_STATES for front in fronts]):
        raise Refused("large")
    rules = _rules_along(A, B, order)
    stages = []
    states = [()]
    for i, x in enumerate(order):
        numbers = {}
        stage = []
        for state in states:
            held, mask = _node_of(state, fronts[i], rules[x], m)
            node = [-1] * m
            for v in range(m):
                if mask >> v & 1 == 1:
                    held[x] = v
                    further = tuple([held[y] for y in fronts[i + 1]])
                    node[v] = numbers.setdefault(further, len(numbers))
            stage.append(node)
        stages.append(stage)
        states = list(numbers)
    return _layers_from(m, order, stages)


def layers_of_rows(n, m, rows, order):
    """The layers of a set of tuples."""
    if not (_is_length(n) and _is_value_number(m) and _is_order(order, n)):
        raise Malformed("no numbers for layers, or no order")
    if not (isinstance(rows, (list, tuple)) and all([is_point_tuple(row, m, n) for row in rows])):
        raise Malformed("no rows")
    if len(rows) > MOST_ROWS:
        raise Refused("large")
    return _layers_of(n, m, rows, order)


def _layers_of(n, m, rows, order):
    told = sorted({tuple([row[x] for x in order]) for row in rows})
    stages = []
    states = {(): 0}
    for i in range(n):
        stage = [[-1] * m for _ in states]
        further = {}
        for row in told:
            # In the last stage all lead to the one end.
            number = 0 if i == n - 1 else further.setdefault(row[:i + 1], len(further))
            stage[states[row[:i]]][row[i]] = number
        stages.append(stage)
        states = further
    return _layers_from(m, order, stages)


def _numbers_behind(layers):
    """For each layer the numbers of the nodes: of the ways from them to the end."""
    numbers = [[1]]
    for layer in reversed(layers):
        behind = numbers[-1]
        numbers.append([sum([behind[item] for item in node if item >= 0]) for node in layer])
    return numbers[::-1]


def layers_number(d):
    """The number of members of the set."""
    _check_layers(d)
    return sum(_numbers_behind(d[2])[0])


def layers_rows(d):
    """The ascending tuple of the members."""
    if layers_number(d) > MOST_ROWS:
        raise Refused("many")
    return tuple(sorted(_rows_of(d)))


def _rows_of(d):
    m, order, layers = d
    ways = [((), 0)] if layers[0] else []
    for layer in layers:
        ways = [(way + (v,), layer[k][v]) for way, k in ways for v in range(m) if layer[k][v] >= 0]
    places = [order.index(x) for x in range(len(order))]
    return [tuple([way[place] for place in places]) for way, _ in ways]


def layers_have(d, row):
    """True if the tuple is a member, for every value of it."""
    _check_layers(d)
    m, order, layers = d
    if not (is_point_tuple(row, m, len(order)) and layers[0]):
        return False
    at = 0
    for x, layer in zip(order, layers):
        at = layer[at][row[x]]
        if at < 0:
            return False
    return True


def _has_way(d, held):
    """True if a member has the held values."""
    m, order, layers = d
    met = {0: True} if layers[0] else {}
    for x, layer in zip(order, layers):
        values = [held[x]] if x in held else list(range(m))
        met = {layer[k][v]: True for k in met for v in values if layer[k][v] >= 0}
    return len(met) > 0


def least_row(d):
    """The least member, or None."""
    _check_layers(d)
    if not _has_way(d, {}):
        return None
    held = {}
    for x in range(len(d[1])):
        held[x] = 0
        while not _has_way(d, held):
            held[x] += 1
    return tuple([held[x] for x in range(len(d[1]))])


def layers_values(d):
    """For each point the numbers of members with each value there."""
    _check_layers(d)
    m, order, layers = d
    behind = _numbers_behind(layers)
    ahead = [1] * len(layers[0])
    told = {}
    for i, layer in enumerate(layers):
        counts = [0] * m
        further = [0] * len(behind[i + 1])
        for number, node in zip(ahead, layer):
            for v in range(m):
                if node[v] >= 0:
                    counts[v] += number * behind[i + 1][node[v]]
                    further[node[v]] += number
        told[order[i]] = tuple(counts)
        ahead = further
    return tuple([told[x] for x in range(len(order))])


def _check_layer_pair(d, e):
    _check_layers(d)
    _check_layers(e)
    if d[0] != e[0] or d[1] != e[1]:
        raise Malformed("unlike numbers or orders")
    for layer, other in zip(d[2], e[2]):
        if (len(layer) + 1) * (len(other) + 1) > MOST_PAIRS:
            raise Refused("large")


def _walked(d, e, is_kept):
    """The layers of the members of which a function of being in `d` and in `e` says that they are kept."""
    _check_layer_pair(d, e)
    m, order, layers = d
    pairs = [(0 if layers[0] else -1, 0 if e[2][0] else -1)]
    stages = []
    for i, layer in enumerate(layers):
        is_last = i == len(layers) - 1
        numbers = {}
        stage = []
        for j, k in pairs:
            node = []
            for v in range(m):
                one = layer[j][v] if j >= 0 else -1
                two = e[2][i][k][v] if k >= 0 else -1
                if is_last:
                    node.append(0 if is_kept(one >= 0, two >= 0) else -1)
                else:
                    ends = one < 0 and two < 0
                    node.append(-1 if ends else numbers.setdefault((one, two), len(numbers)))
            stage.append(node)
        stages.append(stage)
        pairs = list(numbers)
    return _layers_from(m, order, stages)


def layers_meet(d, e):
    """The layers of the members of both."""
    return _walked(d, e, lambda one, two: one and two)


def layers_join(d, e):
    """The layers of the members of one of them."""
    return _walked(d, e, lambda one, two: one or two)


def layers_less(d, e):
    """The layers of the members of `d` that are not in `e`."""
    return _walked(d, e, lambda one, two: one and not two)


def layers_reordered(d, order):
    """The layers of the same set in another order."""
    _check_layers(d)
    n = len(d[1])
    if not _is_order(order, n):
        raise Malformed("no order")
    if layers_number(d) > MOST_ROWS:
        raise Refused("many")
    return _layers_of(n, d[0], _rows_of(d), order)


def layers_sizes(d):
    """The numbers of nodes of the layers."""
    _check_layers(d)
    return tuple([len(layer) for layer in d[2]])
