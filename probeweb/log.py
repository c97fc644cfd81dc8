"""Plain data and logs, written and read (points 17.5 and 17.6)."""

from probeweb.errors import Malformed, NoText
from probeweb.replies import Reply, defined_by, is_right
from probeweb.sheet import is_label
from probeweb.structures import is_pair
from probeweb.whole import integer_text, is_integer, read_integer

MOST_LABEL = 12
MOST_DEPTH = 60
MARKS = ("> ", "= ", "# ")


def _written(data, depth):
    """The written form of plain data that may be nested so deep."""
    if is_integer(data):
        return integer_text(data)
    if is_label(data, MOST_LABEL):
        return data
    if not isinstance(data, tuple) or depth == 0:
        raise Malformed("no plain data")
    return "(" + " ".join([_written(item, depth - 1) for item in data]) + ")"


def write_data(data):
    """The written form of plain data."""
    return _written(data, MOST_DEPTH)


def _single(token):
    """The integer or the label with this written form."""
    return token if is_label(token, MOST_LABEL) else read_integer(token)


def _read_tokens(tokens):
    """The plain data that the tokens tell, each parenthesis one of them."""
    open_items = [[]]
    for token in tokens:
        if token == "(":
            if len(open_items) > MOST_DEPTH:
                raise NoText(0)
            open_items.append([])
        elif token == ")":
            items = tuple(open_items.pop())
            if len(open_items) == 0:
                raise NoText(0)
            open_items[-1].append(items)
        else:
            open_items[-1].append(_single(token))
    if len(open_items) != 1 or len(open_items[0]) != 1:
        raise NoText(0)
    return open_items[0][0]


def read_data(text):
    """The plain data with this written form."""
    if not isinstance(text, str):
        raise NoText(0)
    data = _read_tokens(text.replace("(", " ( ").replace(")", " ) ").split())
    # There is one written form: spaces at other places are no part of it.
    if write_data(data) != text:
        raise NoText(0)
    return data


def _is_text(value):
    """True for a string without a line feed."""
    return isinstance(value, str) and "\n" not in value


def _entry_rows(entry):
    """The three rows of an entry."""
    if not (is_pair(entry) and _is_text(entry[0]) and isinstance(entry[1], Reply)):
        raise Malformed("no entry")
    line, reply = entry
    if not (is_label(reply.kind, MOST_LABEL) and _is_text(reply.text) and isinstance(reply.data, tuple)):
        raise Malformed("no reply that can be written")
    return [MARKS[0] + line, MARKS[1] + reply.kind + " " + reply.text, MARKS[2] + write_data(reply.data)]


def write_log(entries):
    """The written form of a list of entries."""
    rows = [row for entry in entries for row in _entry_rows(entry)]
    return "".join([row + "\n" for row in rows])


def _read_row(row, place):
    """What the row of an entry tells at one of its three places; None if it has not the form that is due."""
    if not row.startswith(MARKS[place]):
        return None
    told = row[len(MARKS[place]):]
    if place == 0:
        return told
    if place == 1:
        kind, space, text = told.partition(" ")
        return (kind, text) if space == " " and is_label(kind, MOST_LABEL) else None
    try:
        data = read_data(told)
    except NoText:
        return None
    return data if isinstance(data, tuple) else None


def read_log(text):
    """The list of the entries with this written form."""
    if not isinstance(text, str):
        raise NoText(0)
    rows = text.split("\n")
    # What stands behind the last line feed has the number that is told for a text that ends there, whatever it is.
    last = rows.pop()
    told = [_read_row(row, k % 3) for k, row in enumerate(rows)]
    if None in told:
        raise NoText(told.index(None))
    if last != "" or len(rows) % 3 != 0:
        raise NoText(len(rows))
    return [(told[k], Reply(told[k + 1][0], told[k + 1][1], told[k + 2])) for k in range(0, len(rows), 3)]


def first_wrong(entries):
    """The index of the first item that is no right entry over what the items before it define, or -1."""
    names = {}
    for k, entry in enumerate(entries):
        if not is_right(names, entry):
            return k
        defined = defined_by(names, entry[0])
        if defined is not None:
            names[defined[0]] = defined[1]
    return -1
