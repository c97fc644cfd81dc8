"""Replies to lines of worksheets, and whether entries are right (points 17.2, 17.3 and 17.5)."""

from probeweb.bagjudges import takes_core, takes_width, takes_within
from probeweb.bagpapers import core_paper, width_paper, within_paper
from probeweb.bags import least_tree, number_along
from probeweb.colourings import colour_number, colour_row, flow_number, forest_number
from probeweb.errors import Malformed, NoText, Refused
from probeweb.layers import layers_number, layers_of_maps
from probeweb.maps import injection_number, map_number, surjection_number
from probeweb.matrices import spectrum_row
from probeweb.probejudges import takes_colours, takes_lists, takes_pairs, takes_strategy
from probeweb.probepapers import colours_paper, even_paper, lists_paper, pairs_paper, strategy_paper
from probeweb.searchjudges import (
    takes_choice, takes_cycles, takes_paths, takes_sameness, takes_search, takes_words)
from probeweb.searchpapers import (
    choice_paper, cycles_paper, numbers_paper, paths_paper, sameness_paper, search_paper, words_paper)
from probeweb.sheet import PLAIN, read_line
from probeweb.structures import (
    MOST_TABLES, beside, check_alike, crossed, folded_by, is_pair, is_point, power_structure, restricted_to)
from probeweb.templatejudges import takes_class, takes_decided, takes_defined, takes_special
from probeweb.templatepapers import class_paper, decided_paper, defined_paper, special_paper
from probeweb.whole import integer_text

# The commands that define a name, with the number of the names that they use.
DEFINING = {"graph": 0, "table": 0, "more": 1, "beside": 2, "crossed": 2, "power": 1, "folded": 1, "part": 1}
NUMBERS = ("count", "inject", "onto", "along", "layers", "colour", "flows", "forests")
ROWS = ("row", "spectrum")
YES = ("map", "lists", "strategy", "classes", "even", "pairs", "within", "matrix", "alike", "turned", "back", "formula",
       "choice")


class Reply:
    """A reply to a line: its kind, a text, and a tuple of data."""

    def __init__(self, kind, text="", data=()):
        self.kind = kind
        self.text = text
        self.data = data

    def __eq__(self, other):
        if not isinstance(other, Reply):
            return False
        return self.kind == other.kind and self.text == other.text and self.data == other.data


def _numbers_text(numbers):
    """The written forms of integers, joined by spaces."""
    return " ".join([integer_text(n) for n in numbers])


def _structure_text(A):
    """The number of points and the tables of a structure."""
    parts = [integer_text(A[0])]
    for arity, rows in A[1]:
        written = [",".join([integer_text(x) for x in row]) for row in rows]
        parts.append(" ".join([integer_text(arity) + ":"] + written))
    return " | ".join(parts)


def _used_names(command):
    """The names that a command uses, without the one that it defines."""
    word = command[0]
    if word in DEFINING:
        return command[2:2 + DEFINING[word]]
    if word == "defined":
        return command[1:2]
    many = len([form for form in PLAIN[word] if form == "n"]) if word in PLAIN else 0
    return command[1:1 + many]


def _with_table(A, arity, rows):
    """`A` with one table more behind the others."""
    if len(A[1]) == MOST_TABLES or not all([is_point(x, A[0]) for row in rows for x in row]):
        raise Malformed("no further table")
    return A[0], A[1] + ((arity, rows),)


def _told_structure(command, used):
    """The structure that a command defines; `used` has the structures of the names that it uses."""
    word = command[0]
    if word == "more":
        return _with_table(used[0], command[3], command[4])
    if word == "beside":
        return beside(used[0], used[1])
    if word == "crossed":
        return crossed(used[0], used[1])
    if word == "power":
        return power_structure(used[0], command[3])
    if word == "folded":
        return folded_by(used[0], command[3])
    if word == "part":
        return restricted_to(used[0], command[3])
    return command[2]


def _along_number(A, B):
    # Without this a great structure would be refused before its kind is looked at.
    check_alike(A, B)
    return number_along(A, B, least_tree(A))


def _told_number(command, used):
    """The number that a command asks for."""
    word, A = command[0], used[0]
    if word == "count":
        return map_number(A, used[1])
    if word == "inject":
        return injection_number(A, used[1])
    if word == "onto":
        return surjection_number(A, used[1])
    if word == "along":
        return _along_number(A, used[1])
    if word == "layers":
        return layers_number(layers_of_maps(A, used[1], tuple(range(A[0]))))
    if word == "colour":
        return colour_number(A, command[2])
    if word == "flows":
        return flow_number(A, command[2])
    return forest_number(A)


def _paper_of_two(word, A, B):
    """The paper of a command that asks for two structures alone."""
    if word == "map":
        return search_paper(A, B)
    if word == "lists":
        return lists_paper(A, B)
    if word == "strategy":
        return strategy_paper(A, B)
    if word == "colours":
        return colours_paper(A, B)
    if word == "even":
        return even_paper(A, B)
    if word == "pairs":
        return pairs_paper(A, B)
    if word == "words":
        return words_paper(A, B)
    if word == "paths":
        return paths_paper(A, B)
    if word == "cycles":
        return cycles_paper(A, B)
    return sameness_paper(A, B) if word == "same" else numbers_paper(A, B)


def _told_paper(command, used):
    """The paper that a command asks for."""
    word = command[0]
    if word == "choice":
        return choice_paper(command[2], command[1])
    if word == "core":
        return core_paper(used[0])
    if word == "width":
        return width_paper(used[0])
    if word == "within":
        return within_paper(used[0], command[2])
    if word == "decided":
        return decided_paper(used[0])
    if word == "special":
        return special_paper(used[0], command[2])
    if word == "defined":
        return defined_paper(used[0], command[2])
    if word == "class":
        return class_paper(used[0], used[1], command[3])
    return _paper_of_two(word, used[0], used[1])


def _takes_of_two(word, A, B, paper):
    """True if the judge of a command that asks for two structures alone accepts the paper."""
    if word == "map":
        return takes_search(A, B, paper)
    if word == "lists":
        return takes_lists(A, B, paper)
    if word == "strategy":
        return takes_strategy(A, B, paper)
    if word == "colours" or word == "even":
        return takes_colours(A, B, paper)
    if word == "pairs":
        return takes_pairs(A, B, paper)
    if word == "words":
        return takes_words(A, B, paper)
    if word == "paths":
        return takes_paths(A, B, paper)
    if word == "cycles":
        return takes_cycles(A, B, paper)
    return takes_sameness(A, B, paper)


def _takes(command, used, paper):
    """True if the judge of the command accepts the paper."""
    word = command[0]
    if word == "choice":
        return takes_choice(command[2], command[1], paper)
    if word == "core":
        return takes_core(used[0], paper)
    if word == "width":
        return takes_width(used[0], paper)
    if word == "within":
        return takes_within(used[0], command[2], paper)
    if word == "decided":
        return takes_decided(used[0], paper)
    if word == "special":
        return takes_special(used[0], command[2], paper)
    if word == "defined":
        return takes_defined(used[0], command[2], paper)
    if word == "class":
        return takes_class(used[0], used[1], command[3], paper)
    return _takes_of_two(word, used[0], used[1], paper)


def _paper_text(word, paper):
    """The text that belongs to a paper."""
    if word == "core":
        return _numbers_text(paper[1])
    if word == "width":
        return integer_text(paper[1])
    return "yes" if paper[0] in YES or (word == "special" and paper[0] == "operation") else "no"


def _answered(command, used):
    """The reply to a command that uses these structures."""
    word = command[0]
    if word == "empty":
        return Reply("done")
    if word == "show":
        return Reply("structure", _structure_text(used[0]))
    if word in DEFINING:
        return Reply("structure", _structure_text(_told_structure(command, used)))
    if word in NUMBERS:
        return Reply("number", integer_text(_told_number(command, used)))
    if word in ROWS:
        return Reply("row", _numbers_text(colour_row(used[0]) if word == "row" else spectrum_row(used[0])))
    paper = _told_paper(command, used)
    return Reply(word, _paper_text(word, paper), paper)


def _command_of(line):
    """The command of a line, or None."""
    try:
        return read_line(line)
    except NoText:
        return None


def _structures_for(names, command):
    """The structures of the names that a command uses, or None if one has no definition."""
    used = _used_names(command)
    return [names[name] for name in used] if all([name in names for name in used]) else None


def reply_to(names, line):
    """The reply to a line, for every value of it."""
    command = _command_of(line)
    if command is None:
        return Reply("error", "text")
    used = _structures_for(names, command)
    if used is None:
        return Reply("error", "refused name")
    try:
        return _answered(command, used)
    except Malformed:
        return Reply("error", "malformed")
    except Refused as error:
        return Reply("error", "refused " + error.reason)


def defined_by(names, line):
    """The pair of a name and a structure that a line defines, or None."""
    command = _command_of(line)
    if command is None or command[0] not in DEFINING:
        return None
    used = _structures_for(names, command)
    if used is None:
        return None
    try:
        return command[1], _told_structure(command, used)
    except (Malformed, Refused):
        return None


def is_right(names, entry):
    """True if the entry is right over the definitions, for every value of it."""
    if not (is_pair(entry) and isinstance(entry[1], Reply)):
        return False
    line, reply = entry
    told = reply_to(names, line)
    command = _command_of(line)
    if command is None or told.kind != command[0] or told.kind in ROWS:
        return reply == told
    if reply.kind != told.kind or not _takes(command, _structures_for(names, command), reply.data):
        return False
    if reply.text != _paper_text(told.kind, reply.data):
        return False
    # A core has as many points as the told one, whatever points these are.
    return told.kind != "core" or len(reply.data[1]) == len(told.data[1])
