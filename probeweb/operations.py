"""Operations, the tables that they keep, and definable tables (chapter 10)."""

from probeweb.counting import listed_maps
from probeweb.errors import Malformed, Refused
from probeweb.instances import SemilatticeSearch, all_rows, index_of, power_of, special_instance, with_turned_rows
from probeweb.solving import MapSearch, linked_points
from probeweb.structures import (
    MOST_ARITY, arities_of, check_structure, is_ascending, is_point, is_point_tuple, kind_of)
from probeweb.whole import is_number_from, raised_to

MOST_DOMAIN = 60
MOST_ARGUMENTS = 5
MOST_ITEMS = 60
MOST_CHOICES = 4000
MOST_OPERATIONS = 20000
ARGUMENTS = {"semilattice": 2, "majority": 3, "maltsev": 3, "minority": 3, "constant": 1}


def is_argument_number(value):
    """True for an integer from 1 to 5."""
    return is_number_from(value, 1) and value <= MOST_ARGUMENTS


def _check_domain(n):
    if not (is_number_from(n, 1) and n <= MOST_DOMAIN):
        raise Malformed("no number of points")


def _check_arguments(k):
    if not is_argument_number(k):
        raise Malformed("no number of arguments")


def check_template(B):
    """None for a structure with at least one point."""
    check_structure(B)
    if B[0] == 0:
        raise Malformed("no points")


def _check_items(n, k):
    """Refuses operations with more than 60 items."""
    if raised_to(n, k) > MOST_ITEMS:
        raise Refused("large")


def _check_numbers(n, k):
    """The first errors of the functions of `n` and `k`."""
    _check_domain(n)
    _check_arguments(k)
    _check_items(n, k)


def _check_power_size(B, k):
    """Refuses powers beyond the bounds."""
    _check_items(B[0], k)
    if any([raised_to(len(rows), k) > MOST_CHOICES for _, rows in B[1]]):
        raise Refused("large")


def _check_power(B, k):
    """The first errors of the functions of `B` and `k`."""
    check_template(B)
    _check_arguments(k)
    _check_power_size(B, k)


def _is_operation(value, n, k):
    return is_point_tuple(value, n, raised_to(n, k))


def _check_operation(f, n, k):
    if not _is_operation(f, n, k):
        raise Malformed("no operation")


def is_operation(value, n, k):
    """True for an operation of `k` arguments over `n` points, for every value."""
    _check_numbers(n, k)
    return _is_operation(value, n, k)


def operation_at(f, n, row):
    """The value of an operation at a tuple of points."""
    _check_domain(n)
    if not (isinstance(row, tuple) and is_argument_number(len(row)) and is_point_tuple(row, n, len(row))):
        raise Malformed("no row of arguments")
    _check_items(n, len(row))
    _check_operation(f, n, len(row))
    return f[index_of(row, n)]


def projected_at(n, k, i):
    """The projection `i` of `k` arguments."""
    _check_numbers(n, k)
    if not (is_number_from(i, 1) and i <= k):
        raise Malformed("no number of a projection")
    return tuple([row[i - 1] for row in all_rows(n, k)])


def _is_row_list(value, n):
    """True for a tuple or list of tuples of one length of points."""
    if not isinstance(value, (tuple, list)):
        return False
    size = len(value[0]) if len(value) > 0 and isinstance(value[0], tuple) else 1
    return 1 <= size <= MOST_ARITY and all([is_point_tuple(row, n, size) for row in value])


def _keeps(f, n, k, rows):
    """True if the operation keeps the table; it is walked through argument by argument."""
    facts = {row: True for row in rows}
    if not facts:
        return True
    size = len(list(facts)[0])
    led = {(0,) * size: True}
    for _ in range(k):
        led = {tuple([at * n + x for at, x in zip(told, row)]): True for told in led for row in facts}
    return all([tuple([f[at] for at in told]) in facts for told in led])


def keeps_rows(f, n, k, rows):
    """True if the operation keeps a table that is told by its rows."""
    _check_numbers(n, k)
    _check_operation(f, n, k)
    if not _is_row_list(rows, n):
        raise Malformed("no table")
    return _keeps(f, n, k, rows)


def keeps_tables(f, B, k):
    """True if the operation of `k` arguments keeps all tables of `B`, without a check."""
    for _, rows in B[1]:
        if not _keeps(f, B[0], k, rows):
            return False
    return True


def is_kept_by(B, f, k):
    """True if `f` is an operation of `k` arguments of `B`."""
    _check_power(B, k)
    _check_operation(f, B[0], k)
    return keeps_tables(f, B, k)


def _common_arguments(inner, n, k):
    """The number of arguments of all operations of a tuple of `k`."""
    if not (isinstance(inner, tuple) and len(inner) == k):
        raise Malformed("no tuple of as many operations")
    for count in range(1, MOST_ARGUMENTS + 1):
        if raised_to(n, count) <= MOST_ITEMS and all([_is_operation(g, n, count) for g in inner]):
            return count
    raise Malformed("no operations of one number of arguments")


def put_together(f, n, k, inner):
    """The operation with the values of `f` at the values of the inner operations."""
    _check_numbers(n, k)
    _check_operation(f, n, k)
    size = raised_to(n, _common_arguments(inner, n, k))
    return tuple([f[index_of([g[at] for g in inner], n)] for at in range(size)])


def all_operations(B, k):
    """The ascending tuple of the operations of `k` arguments of `B`."""
    _check_power(B, k)
    return listed_maps(MapSearch(power_of(B, k), B), MOST_OPERATIONS)


def operation_number(B, k):
    """The number of the operations of `k` arguments of `B`."""
    return len(all_operations(B, k))


def check_kind_word(word):
    """None for a word for a kind of operations."""
    if not (isinstance(word, str) and word in ARGUMENTS):
        raise Malformed("no kind of operations")


def special_operation(B, word):
    """The least operation of `B` of the kind that the word tells, or None."""
    check_template(B)
    check_kind_word(word)
    k = ARGUMENTS[word]
    _check_power_size(B, k)
    if word == "constant":
        found = [(v,) * B[0] for v in range(B[0]) if keeps_tables((v,) * B[0], B, 1)]
        return found[0] if found else None
    one, two = special_instance(B, k, word)
    if word != "semilattice":
        return MapSearch(one, two).least()
    one, two = with_turned_rows(one, two, B[0])
    return SemilatticeSearch(one, two).least()


def _check_table(B, rows):
    """None for a table of 1 to 5 rows that may be definable."""
    if not (isinstance(rows, tuple) and is_argument_number(len(rows))):
        raise Malformed("no table of 1 to 5 rows")
    if not (_is_row_list(rows, B[0]) and is_ascending(rows)):
        raise Malformed("no ascending tuple of rows")


def breaking_operation(B, rows):
    """The least operation of `B` that makes of the rows, in order, a row that is none of them, or None."""
    check_template(B)
    _check_table(B, rows)
    _check_power_size(B, len(rows))
    return least_breaking(B, rows)


def least_breaking(B, rows):
    """As `breaking_operation`, without a check."""
    n = B[0]
    spots = [index_of([row[place] for row in rows], n) for place in range(len(rows[0]))]
    scope = tuple(sorted(set(spots)))
    places = [scope.index(spot) for spot in spots]
    facts = {row: True for row in rows}
    values = all_rows(n, len(scope))
    search = MapSearch(power_of(B, len(rows)), B)
    outside = {told: True for told in values if tuple([told[place] for place in places]) not in facts}
    search.take_rule(scope, outside, rows)
    return search.least()


def _marked_rows(search, lists, marks, near, classes, held):
    """The rows of values of the unlike marks, behind the held ones, in maps within settled lists.

    Of the values that can be exchanged with one another only the least ones
    are tried. `near` are the points that count.
    """
    if len(held) == len(marks):
        return [held] if search.found_in(lists, near, 1) else []
    mark = marks[len(held)]
    found = []
    for v in search.members(lists[mark]):
        if all([w in held for w in classes[v] if w < v]):
            trial = search.settled_with(lists, mark, v)
            if trial is not None:
                found.extend(_marked_rows(search, trial, marks, near, classes, held + (v,)))
    return found


def _exchanged_rows(row, classes):
    """All rows that come from a row by exchanging values within their classes."""
    found = [()]
    for k, v in enumerate(row):
        at = row.index(v)
        if at < k:
            found = [told + (told[at],) for told in found]
        else:
            found = [told + (w,) for told in found for w in classes[v] if w not in told]
    return found


def defined_rows(A, marks, B):
    """The ascending tuple of the rows that all maps of `A` into `B` have at the marks."""
    check_template(B)
    if kind_of(A) != arities_of(B):
        raise Malformed("unlike kinds")
    if not (isinstance(marks, tuple) and 1 <= len(marks) <= MOST_ARITY and all([is_point(p, A[0]) for p in marks])):
        raise Malformed("no marks")
    search = MapSearch(A, B)
    lists = search.started(search.lists)
    if lists is None or not search.found_in(lists, search.points, 1):
        return ()
    # What is not linked with a mark has a map of its own, whatever the marks' values are.
    near = linked_points(search.joined, marks)
    classes = search.swap_classes()
    unlike = sorted(set(marks))
    rows = []
    for row in _marked_rows(search, lists, unlike, near, classes, ()):
        rows.extend(_exchanged_rows(row, classes))
    places = [unlike.index(p) for p in marks]
    return tuple(sorted([tuple([row[place] for place in places]) for row in rows]))
