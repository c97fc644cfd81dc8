"""Lines of worksheets and the commands that they tell (point 17.1)."""

from probeweb.errors import NoText
from probeweb.structures import MOST_ARITY, MOST_POINTS, graph_with
from probeweb.whole import read_integer

MOST_SIGNS = 2000
MOST_NAME = 8
MOST_WORD = 12
MOST_DIGITS = 12
MOST_ITEMS = 3
SMALL = "abcdefghijklmnopqrstuvwxyz"
# The commands whose items stand in the line one by one: n for a name, i for an integer, w for a word.
PLAIN = {
    "beside": "nnn", "crossed": "nnn", "power": "nni", "show": "n",
    "count": "nn", "inject": "nn", "onto": "nn", "along": "nn", "layers": "nn",
    "colour": "ni", "flows": "ni", "within": "ni",
    "forests": "n", "row": "n", "spectrum": "n", "core": "n", "width": "n", "decided": "n",
    "map": "nn", "lists": "nn", "strategy": "nn", "colours": "nn", "even": "nn", "pairs": "nn", "words": "nn",
    "paths": "nn", "cycles": "nn", "same": "nn", "profile": "nn", "special": "nw", "class": "nnw"}


def is_label(value, most):
    """True for a string of 1 to `most` small letters, for every value."""
    return isinstance(value, str) and 1 <= len(value) <= most and all([sign in SMALL for sign in value])


def is_line(value):
    """True for a line, for every value."""
    return isinstance(value, str) and len(value) <= MOST_SIGNS and all([" " <= sign <= "~" for sign in value])


def _label_in(token, most):
    if not is_label(token, most):
        raise NoText(0)
    return token


def _integer_in(token):
    digits = token[1:] if token.startswith("-") else token
    if len(digits) > MOST_DIGITS:
        raise NoText(0)
    return read_integer(token)


def _integer_to(token, most):
    """The integer from 0 to `most` that a token tells."""
    n = _integer_in(token)
    if n < 0 or n > most:
        raise NoText(0)
    return n


def _row_in(token):
    """The row that a token tells."""
    row = tuple([_integer_in(part) for part in token.split(",")])
    if len(row) > MOST_ITEMS or min(row) < 0:
        raise NoText(0)
    return row


def _rows_in(tokens, arity):
    """The rows of this length that the tokens tell, in their order."""
    rows = [_row_in(token) for token in tokens]
    if any([len(row) != arity for row in rows]):
        raise NoText(0)
    return rows


def _point_rows(tokens, arity, n):
    """As `_rows_in`, all points below `n`."""
    rows = _rows_in(tokens, arity)
    if any([x >= n for row in rows for x in row]):
        raise NoText(0)
    return rows


def _arity_in(token):
    arity = _integer_to(token, MOST_ARITY)
    if arity == 0:
        raise NoText(0)
    return arity


def _unlike_rows(rows):
    return tuple(sorted({row for row in rows}))


def _check_form(tokens, least, equals):
    """None for at least so many tokens, with `=` at the told index; -1 tells that there is none."""
    if len(tokens) < least or (equals >= 0 and tokens[equals] != "="):
        raise NoText(0)


def _graph_command(tokens):
    _check_form(tokens, 4, 2)
    name, n = _label_in(tokens[1], MOST_NAME), _integer_to(tokens[3], MOST_POINTS)
    edges = _point_rows(tokens[4:], 2, n)
    if any([x == y for x, y in edges]):
        raise NoText(0)
    return "graph", name, graph_with(n, edges)


def _table_command(tokens):
    _check_form(tokens, 5, 2)
    name, n, arity = _label_in(tokens[1], MOST_NAME), _integer_to(tokens[3], MOST_POINTS), _arity_in(tokens[4])
    return "table", name, (n, ((arity, _unlike_rows(_point_rows(tokens[5:], arity, n))),))


def _more_command(tokens):
    _check_form(tokens, 5, 3)
    name, used, arity = _label_in(tokens[1], MOST_NAME), _label_in(tokens[2], MOST_NAME), _arity_in(tokens[4])
    return "more", name, used, arity, _unlike_rows(_rows_in(tokens[5:], arity))


def _chosen_command(tokens):
    """The command of a line that ends with any number of integers."""
    _check_form(tokens, 3, -1)
    numbers = tuple([_integer_in(token) for token in tokens[3:]])
    return tokens[0], _label_in(tokens[1], MOST_NAME), _label_in(tokens[2], MOST_NAME), numbers


def _defined_command(tokens):
    _check_form(tokens, 3, -1)
    return "defined", _label_in(tokens[1], MOST_NAME), tuple([_row_in(token) for token in tokens[2:]])


def _list_in(token, m):
    """The list of values below `m` that a token tells."""
    if token == "-":
        return ()
    if token == "a":
        return tuple(range(m))
    row = _row_in(token)
    if max(row) >= m:
        raise NoText(0)
    return tuple(sorted(set(row)))


def _choice_command(tokens):
    _check_form(tokens, 2, -1)
    m = _integer_to(tokens[1], MOST_POINTS)
    return "choice", m, tuple([_list_in(token, m) for token in tokens[2:]])


def _item_in(token, form):
    """The item of a command that a token tells."""
    if form == "i":
        return _integer_in(token)
    return _label_in(token, MOST_NAME if form == "n" else MOST_WORD)


def _plain_command(tokens):
    """The command of a line whose items stand one by one."""
    if tokens[0] not in PLAIN or len(tokens) != len(PLAIN[tokens[0]]) + 1:
        raise NoText(0)
    return (tokens[0],) + tuple([_item_in(token, form) for token, form in zip(tokens[1:], PLAIN[tokens[0]])])


def read_line(line):
    """The command that a line tells."""
    if not is_line(line):
        raise NoText(0)
    tokens = line.split()
    if len(tokens) == 0 or line.startswith("#"):
        return ("empty",)
    word = tokens[0]
    if word == "graph":
        return _graph_command(tokens)
    if word == "table":
        return _table_command(tokens)
    if word == "more":
        return _more_command(tokens)
    if word == "folded" or word == "part":
        return _chosen_command(tokens)
    if word == "defined":
        return _defined_command(tokens)
    if word == "choice":
        return _choice_command(tokens)
    return _plain_command(tokens)
