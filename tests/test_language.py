"""The rules for the code of the package, as far as a look at the files shows them."""

import ast
import builtins
import os
import re
import unittest

from kept import called, parents_of, wrong_rows

FOLDER = os.path.join(os.path.dirname(os.path.abspath(__file__)), "..", "probeweb")
LISTED = {
    "errors": ("Fault", "Malformed", "Refused", "NoText"),
    "whole": ("is_integer", "read_integer", "raised_to", "greatest_common", "least_common", "ratio", "is_ratio",
              "ratio_sum", "ratio_less", "ratio_product", "ratio_over", "ratio_text", "ratio_below"),
    "structures": ("is_structure", "is_binary", "is_graph", "kind_of", "check_alike", "graph_with", "edges_of",
                   "facts_at", "joined_points", "pieces_of", "beside", "crossed", "power_structure", "first_numbering",
                   "folded_by", "restricted_to", "renumbered"),
    "maps": ("is_map", "least_map", "all_maps", "taking_order", "map_number", "injection_number", "surjection_number",
             "core_points", "is_rigid"),
    "trees": ("is_tree", "tree_points", "tree_rests", "tree_rest", "tree_number", "tree_reaches", "tree_unfolded"),
    "arcs": ("greatest_lists", "lists_stand", "list_round", "is_closed_lists", "cover_tree", "arc_probe"),
    "strands": ("is_strand", "strand_rests", "strand_rest", "strand_points", "strand_number", "strand_reaches",
                "strand_unfolded"),
    "pebbles": ("greatest_strategy", "strategy_stands", "strategy_round", "is_strategy", "pebble_probe"),
    "refutations": ("is_nogood", "fact_openings", "refuted_nogood", "case_refutation", "slim_refutation",
                    "span_refutation", "nogood_length", "row_span", "case_number"),
    "cuttings": ("ending_plane", "cutting_from"),
    "refining": ("colour_round", "joint_colouring", "stable_colouring", "same_colours", "class_numbers", "tree_apart",
                 "even_matrix", "is_even_matrix"),
    "pairing": ("pair_round", "joint_pairs", "pair_colouring", "same_pairs", "pair_numbers", "is_pair_colouring",
                "strand_apart"),
    "linear": ("fraction_product", "turned_rows", "unit_rows", "reduced_rows", "fraction_rank", "fraction_solve",
               "fraction_bar", "fraction_kernel", "fraction_inverse", "whole_determinant"),
    "matrices": ("kind_letters", "letter_rows", "word_path", "word_number", "word_within", "word_apart", "path_matrix",
                 "closed_row", "spectrum_row", "cycle_within", "cycle_graph", "grid_graph", "grid_number"),
    "sameness": ("is_turning", "turned_into", "turning_chain", "turning_number", "turning_orbits", "all_turnings",
                 "all_foldings", "folding_apart", "class_number_under", "class_number_over", "class_number_both",
                 "case_parting"),
    "operations": ("is_operation", "operation_at", "projected_at", "keeps_rows", "is_kept_by", "put_together",
                   "all_operations", "operation_number", "special_operation", "breaking_operation", "defined_rows"),
    "templates": ("list_structure", "list_map", "is_list_decided", "is_linear", "linear_number", "linear_map",
                  "boolean_classes", "class_map"),
    "bags": ("is_bag_tree", "is_thicket", "bag_width", "order_width", "order_tree", "thicket_order", "least_width",
             "least_tree", "widest_thicket", "number_along"),
    "layers": ("is_layers", "layers_of_maps", "layers_of_rows", "layers_number", "layers_rows", "layers_have",
               "least_row", "layers_values", "layers_meet", "layers_join", "layers_less", "layers_reordered",
               "layers_sizes"),
    "global_rows": ("hall_choice", "hall_set", "least_hall_set", "kept_lists", "tight_set", "bounded_choice",
                    "bound_barrier", "apart_number", "rook_row", "other_lists", "row_structures", "hall_cutting",
                    "is_strip", "strip_lists", "strip_number"),
    "colourings": ("colour_row", "colour_number", "acyclic_number", "rooted_number", "stable_row", "unbroken_row",
                   "flat_list", "flow_row", "flow_number", "tutte_rows", "forest_number"),
    "probepapers": ("lists_paper", "strategy_paper", "colours_paper", "pairs_paper", "even_paper"),
    "probejudges": ("takes_lists", "takes_strategy", "takes_colours", "takes_pairs"),
    "searchpapers": ("search_paper", "cutting_paper", "words_paper", "paths_paper", "cycles_paper", "sameness_paper",
                     "numbers_paper", "choice_paper", "kept_paper", "bounds_paper"),
    "searchjudges": ("takes_search", "takes_words", "takes_paths", "takes_cycles", "takes_sameness", "takes_choice",
                     "takes_kept", "takes_bounds"),
    "bagpapers": ("core_paper", "width_paper", "within_paper", "number_paper", "layers_paper"),
    "bagjudges": ("takes_core", "takes_width", "takes_within", "takes_number", "takes_layers"),
    "templatepapers": ("defined_paper", "decided_paper", "special_paper", "class_paper"),
    "templatejudges": ("takes_defined", "takes_decided", "takes_special", "takes_class"),
    "sheet": ("read_line",), "replies": ("reply_to", "defined_by", "is_right"),
    "log": ("write_data", "read_data", "write_log", "read_log", "first_wrong"),
}
# The listed classes of the worksheets, with their methods and the arguments of these.
CLASSES = {
    ("replies", "Reply"): {"__init__": "self kind text data", "__eq__": "self other"},
    ("console", "Console"): {"__init__": "self", "__len__": "self", "__iter__": "self", "enter": "self line",
                             "names": "self", "log": "self"}}
ARGUMENTS = {
    "graph_with": "n edges", "facts_at": "A x", "power_structure": "A k", "folded_by": "A colouring",
    "restricted_to": "A points", "renumbered": "A f", "is_map": "f A B", "tree_rests": "tree A l", "tree_rest": "tree A l",
    "is_tree": "value kind", "tree_points": "tree kind", "tree_unfolded": "tree kind", "list_round": "A B k",
    "is_closed_lists": "A B value", "cover_tree": "A k", "is_strand": "value kind", "strand_rests": "strand A l",
    "strand_points": "strand kind", "strategy_round": "A B k", "is_strategy": "A B value", "is_nogood": "A B value",
    "fact_openings": "A B nogood t i", "refuted_nogood": "A B value", "row_span": "A rows", "case_number": "rows",
    "ending_plane": "A B value", "cutting_from": "A B rows", "colour_round": "A B k", "is_even_matrix": "A B value",
    "raised_to": "a e", "ratio": "n d", "ratio_sum": "a b", "read_integer": "text", "edges_of": "G", "crossed": "A B",
    "pair_round": "A B k", "pair_colouring": "A", "pair_numbers": "A", "is_pair_colouring": "A B value",
    "fraction_product": "one two", "turned_rows": "rows width", "unit_rows": "n", "reduced_rows": "rows width",
    "fraction_rank": "rows width", "fraction_solve": "rows width column", "fraction_bar": "rows width column",
    "fraction_kernel": "rows width", "fraction_inverse": "rows", "whole_determinant": "rows", "kind_letters": "A",
    "letter_rows": "A letter", "word_path": "A word", "word_number": "A word", "closed_row": "A most",
    "spectrum_row": "A", "cycle_graph": "k", "grid_graph": "r k", "grid_number": "A r k", "is_turning": "A B value",
    "turning_chain": "A", "turning_number": "A", "turning_orbits": "A", "all_turnings": "A", "all_foldings": "n",
    "is_operation": "value n k", "operation_at": "f n row", "projected_at": "n k i", "keeps_rows": "f n k rows",
    "is_kept_by": "B f k", "put_together": "f n k inner", "all_operations": "B k", "operation_number": "B k",
    "special_operation": "B word", "breaking_operation": "B rows", "defined_rows": "A marks B", "list_structure": "B",
    "list_map": "B", "is_list_decided": "B", "is_linear": "B", "boolean_classes": "B", "class_map": "A B word",
    "is_bag_tree": "A value", "is_thicket": "A value", "bag_width": "A tree", "order_width": "A order",
    "order_tree": "A order", "thicket_order": "A thicket", "least_width": "A", "least_tree": "A",
    "widest_thicket": "A", "number_along": "A B tree", "is_layers": "value", "layers_of_maps": "A B order",
    "layers_of_rows": "n m rows order", "layers_number": "d", "layers_rows": "d", "layers_have": "d row",
    "least_row": "d", "layers_values": "d", "layers_meet": "d e", "layers_join": "d e", "layers_less": "d e",
    "layers_reordered": "d order", "layers_sizes": "d", "hall_choice": "lists m", "hall_set": "lists m",
    "least_hall_set": "lists m", "kept_lists": "lists m", "tight_set": "lists m x v",
    "bounded_choice": "lists m bounds", "bound_barrier": "lists m bounds", "apart_number": "lists m",
    "rook_row": "lists m", "other_lists": "lists m", "row_structures": "lists m", "hall_cutting": "lists m",
    "is_strip": "value n", "strip_lists": "strip n", "strip_number": "k n", "colour_row": "G", "colour_number": "G q",
    "acyclic_number": "G", "rooted_number": "G", "stable_row": "G", "unbroken_row": "G", "flat_list": "G",
    "flow_row": "G", "flow_number": "G q", "tutte_rows": "G", "forest_number": "G",
    "takes_lists": "A B paper", "takes_strategy": "A B paper", "takes_colours": "A B paper", "takes_pairs": "A B paper",
    "choice_paper": "lists m", "kept_paper": "lists m x v", "bounds_paper": "lists m bounds",
    "takes_search": "A B paper", "takes_words": "A B paper", "takes_paths": "A B paper", "takes_cycles": "A B paper",
    "takes_sameness": "A B paper", "takes_choice": "lists m paper", "takes_kept": "lists m x v paper",
    "takes_bounds": "lists m bounds paper", "core_paper": "A", "width_paper": "A", "within_paper": "A k",
    "number_paper": "A B tree", "layers_paper": "A B order", "takes_core": "A paper", "takes_width": "A paper",
    "takes_within": "A k paper", "takes_number": "A B paper", "takes_layers": "A B order paper",
    "defined_paper": "B rows", "decided_paper": "B", "special_paper": "B word", "class_paper": "A B word",
    "takes_defined": "B rows paper", "takes_decided": "B paper", "takes_special": "B word paper",
    "takes_class": "A B word paper", "read_line": "line", "reply_to": "names line", "defined_by": "names line",
    "is_right": "names entry", "write_data": "data", "read_data": "text", "write_log": "entries", "read_log": "text",
    "first_wrong": "entries",
}
USED = {"abs", "all", "any", "bool", "dict", "divmod", "enumerate", "int", "isinstance", "iter", "len", "list", "max", "min",
        "range", "reversed", "set", "sorted", "str", "sum", "super", "tuple", "type", "zip", "ValueError"}
LIBRARY = {"math": {"gcd", "lcm", "comb"}}
COMPREHENSIONS = (ast.ListComp, ast.SetComp, ast.DictComp, ast.GeneratorExp)
CHANGES = {"append", "extend", "insert", "pop", "remove", "clear", "reverse", "sort", "update", "setdefault"}
BARRED = {"mro", "elements", "open", "input", "law", "register", "compile", "dir", "eval", "exec", "exit", "gc", "help",
          "id", "os", "quit", "sys", "type", "vars", "enum", "overload", "dataclass", "typing"}
NODES = (ast.With, ast.Global, ast.Nonlocal, ast.Yield, ast.YieldFrom, ast.AsyncFunctionDef, ast.NamedExpr,
         ast.JoinedStr, ast.Match, ast.Assert, ast.Import, ast.AnnAssign)
ATONCE = {"list", "tuple", "dict", "sorted", "sum", "any", "all", "enumerate", "zip", "min", "max"}


def sources():
    for name in sorted(os.listdir(FOLDER)):
        if name.endswith(".py"):
            with open(os.path.join(FOLDER, name), encoding="ascii") as file:
                yield name[:-3], file.read()


class Rules(unittest.TestCase):
    def test_files(self):
        names = [name for name in os.listdir(FOLDER) if name != "__pycache__"]
        self.assertTrue(all(re.fullmatch(r"[a-z_]+\.py", name) for name in names))
        self.assertIn("__init__.py", names)
        self.assertEqual(dict(sources())["__init__"], "")

    def test_size(self):
        for name, text in sources():
            self.assertLessEqual(len(text.splitlines()), 399, name)
            for k, line in enumerate(text.splitlines()):
                self.assertLessEqual(len(line), 120, (name, k + 1))
                self.assertTrue(all(" " <= sign <= "~" for sign in line), (name, k + 1))
            for node in ast.walk(ast.parse(text)):
                if isinstance(node, ast.FunctionDef):
                    self.assertLessEqual(node.end_lineno - node.lineno + 1, 40, (name, node.name))
                    self.assertEqual(node.decorator_list, [])

    def test_listed_names(self):
        made = {}
        for name, text in sources():
            made[name] = {node.name: node for node in ast.parse(text).body
                          if isinstance(node, (ast.FunctionDef, ast.ClassDef))}
        for name, listed in LISTED.items():
            for told in listed:
                self.assertIn(told, made[name])
                if told in ARGUMENTS:
                    self.assertEqual([arg.arg for arg in made[name][told].args.args], ARGUMENTS[told].split())
                elif name not in ("errors", "whole", "maps", "structures", "trees", "strands", "refutations",
                                  "refining"):
                    self.assertEqual([arg.arg for arg in made[name][told].args.args], ["A", "B"], told)

    def test_imports(self):
        defined = {}
        for name, text in sources():
            body = ast.parse(text).body
            defined[name] = {node.name for node in body if isinstance(node, (ast.FunctionDef, ast.ClassDef))}
            defined[name] |= {node.targets[0].id for node in body if isinstance(node, ast.Assign)}
        before = {}
        for name, text in sources():
            before[name] = set()
            for node in ast.walk(ast.parse(text)):
                if isinstance(node, ast.ImportFrom):
                    told = {alias.name for alias in node.names}
                    if node.module in LIBRARY:
                        self.assertLessEqual(told, LIBRARY[node.module], name)
                        continue
                    package, file = node.module.split(".")
                    self.assertEqual(package, "probeweb")
                    self.assertLessEqual(told, defined[file], name)
                    before[name].add(file)
        while before:
            free = [name for name, others in before.items() if not others & set(before)]
            self.assertTrue(free, "files import from each other")
            for name in free:
                del before[name]

    def test_statements(self):
        for name, text in sources():
            tree = ast.parse(text)
            for node in tree.body:
                plain = isinstance(node, (ast.ImportFrom, ast.FunctionDef, ast.ClassDef, ast.Assign))
                self.assertTrue(plain or node is tree.body[0] and isinstance(node, ast.Expr), (name, node.lineno))
            for node in ast.walk(tree):
                self.assertNotIsInstance(node, NODES, (name, getattr(node, "lineno", 0)))
                if isinstance(node, ast.BinOp):
                    self.assertNotIsInstance(node.op, (ast.Pow, ast.Div, ast.MatMult), (name, node.lineno))
                if isinstance(node, ast.Constant):
                    self.assertNotIsInstance(node.value, (float, complex), (name, node.lineno))
                if isinstance(node, ast.Compare):
                    for op, right in zip(node.ops, node.comparators):
                        if isinstance(op, (ast.Is, ast.IsNot)):
                            self.assertTrue(isinstance(right, ast.Constant) and right.value in (None, True, False))

    def test_names(self):
        builtin = set(dir(builtins))
        for name, text in sources():
            tree = ast.parse(text)
            told = {alias.name for node in ast.walk(tree) if isinstance(node, ast.ImportFrom) for alias in node.names}
            told |= {node.name for node in ast.walk(tree) if isinstance(node, ast.ClassDef)}
            for node in ast.walk(tree):
                bound = None
                if isinstance(node, ast.arg):
                    bound = node.arg
                elif isinstance(node, ast.Name) and isinstance(node.ctx, ast.Store):
                    bound = node.id
                elif isinstance(node, ast.FunctionDef):
                    self.assertNotIn(node.name, builtin | BARRED, name)
                elif isinstance(node, ast.Name) and isinstance(node.ctx, ast.Load):
                    self.assertNotEqual(node.id, "_", (name, node.lineno))
                    self.assertTrue(node.id not in builtin or node.id in USED, (name, node.lineno, node.id))
                elif isinstance(node, ast.Attribute):
                    self.assertNotIn(node.attr, BARRED, (name, node.lineno))
                self.assertNotIn(bound, builtin | BARRED | told, name)

    def test_classes(self):
        made = {}
        for name, text in sources():
            for node in ast.parse(text).body:
                if isinstance(node, ast.ClassDef):
                    made[name, node.name] = node
                    methods = [part for part in node.body if isinstance(part, ast.FunctionDef)]
                    names = {method.name for method in methods}
                    attributes = {part.attr for part in ast.walk(node) if isinstance(part, ast.Attribute)
                                  and isinstance(part.ctx, ast.Store)}
                    self.assertEqual(len(names), len(methods), node.name)
                    self.assertFalse(names & attributes, node.name)
                    special = {word for word in names if word.startswith("__")}
                    self.assertLessEqual(special, {"__init__", "__eq__", "__len__", "__iter__"}, node.name)
        for key, methods in CLASSES.items():
            told = {part.name: part for part in made[key].body if isinstance(part, ast.FunctionDef)}
            for word, arguments in methods.items():
                self.assertEqual([arg.arg for arg in told[word].args.args], arguments.split(), (key, word))
        console = made["console", "Console"].body
        self.assertEqual([arg.arg for part in console if isinstance(part, ast.FunctionDef) for arg in part.args.kwonlyargs],
                         ["most"])
        # What is asked first for equality is whether the other one is of the own class.
        equal = [part for part in made["replies", "Reply"].body if getattr(part, "name", "") == "__eq__"][0]
        self.assertEqual(ast.unparse(equal.body[0]), "if not isinstance(other, Reply):\n    return False")

    def test_errors_caught(self):
        for name, text in sources():
            tree = ast.parse(text)
            for node in ast.walk(tree):
                at = (name, getattr(node, "lineno", 0))
                if isinstance(node, ast.Try):
                    self.assertEqual((node.orelse, node.finalbody), ([], []), at)
                    for handler in node.handlers:
                        told = {part.id for part in ast.walk(handler.type) if isinstance(part, ast.Name)}
                        self.assertLessEqual(told, {"Malformed", "Refused", "NoText"}, at)
                if isinstance(node, ast.Call) and isinstance(node.func, ast.Attribute):
                    self.assertNotIn(node.func.attr, ("sort", "format", "encode", "decode", "translate"), at)
                if called(node) == "iter":
                    self.assertEqual(name, "console", at)

    def test_kinds_of_values(self):
        # The kind of a value is only compared with one that is written beside it.
        for name, text in sources():
            tree = ast.parse(text)
            parents = parents_of(tree)
            for node in ast.walk(tree):
                if isinstance(node, ast.Name) and node.id == "type":
                    test = parents[parents[node]]
                    self.assertTrue(called(parents[node]) == "type" and isinstance(test, ast.Compare), (name, node.lineno))
                    self.assertIsInstance(test.ops[0], (ast.Eq, ast.NotEq), (name, node.lineno))
                    self.assertIn(ast.unparse(test.comparators[0]), ("int", "str", "tuple"), (name, node.lineno))

    def test_sets_and_views(self):
        for name, text in sources():
            tree = ast.parse(text)
            parents = parents_of(tree)
            for node in ast.walk(tree):
                above = parents.get(node)
                at = (name, getattr(node, "lineno", 0))
                if isinstance(node, (ast.Set, ast.SetComp)) or called(node) == "set":
                    self.assertIn(called(above), ("sorted", "len"), at)
                    self.assertEqual(above.keywords, [], at)
                # A class of the package has its own equality, so lists stand here.
                self.assertNotIsInstance(node, ast.GeneratorExp, at)
                if called(node) in ("zip", "enumerate", "reversed"):
                    iterated = isinstance(above, (ast.For, ast.comprehension)) and above.iter is node
                    self.assertTrue(iterated or called(above) in ATONCE, at)
                if isinstance(node, ast.Call) and isinstance(node.func, ast.Attribute):
                    if node.func.attr in ("items", "keys", "values"):
                        iterated = isinstance(above, (ast.For, ast.comprehension)) and above.iter is node
                        self.assertTrue(iterated or called(above) in ATONCE, at)

    def test_kept_ranges(self):
        # What goes over things is walked on the spot, or kept as rule L23 lets it.
        for name, text in sources():
            self.assertEqual(wrong_rows(text), [], name)

    def test_nested_comprehensions(self):
        # A variable of a comprehension within another one has no name that is assigned further out.
        for name, text in sources():
            for function in ast.walk(ast.parse(text)):
                if isinstance(function, ast.FunctionDef):
                    taken = {arg.arg for arg in function.args.args} | stored(function)
                    self.check_inner(name, function, taken, False)

    def check_inner(self, name, node, taken, is_inner):
        for child in ast.iter_child_nodes(node):
            if isinstance(child, COMPREHENSIONS):
                fresh = {part.id for rule in child.generators for part in ast.walk(rule.target)
                         if isinstance(part, ast.Name)}
                if is_inner:
                    self.assertFalse(fresh & taken, (name, child.lineno, fresh & taken))
                self.check_inner(name, child, taken | fresh, True)
            else:
                self.check_inner(name, child, taken, is_inner or isinstance(child, ast.Lambda))

    def test_loops(self):
        # What a loop goes over is not changed in it.
        for name, text in sources():
            for node in ast.walk(ast.parse(text)):
                if isinstance(node, ast.For):
                    told = walked(node.iter)
                    for part in [inner for line in node.body for inner in ast.walk(line)]:
                        if isinstance(part, ast.Call) and isinstance(part.func, ast.Attribute) and part.func.attr in CHANGES:
                            self.assertNotIn(ast.unparse(part.func.value), told, (name, part.lineno))
                        if isinstance(part, ast.Subscript) and not isinstance(part.ctx, ast.Load):
                            self.assertNotIn(ast.unparse(part.value), told, (name, part.lineno))


def stored(function):
    """The names that a function assigns outside of its comprehensions."""
    found, waiting = set(), list(function.body)
    while waiting:
        node = waiting.pop()
        if isinstance(node, ast.Name) and isinstance(node.ctx, ast.Store):
            found.add(node.id)
        if not isinstance(node, COMPREHENSIONS):
            waiting.extend(ast.iter_child_nodes(node))
    return found


def walked(node):
    """The written forms of what a loop goes over."""
    if called(node) in ("enumerate", "zip", "reversed"):
        return [told for part in node.args for told in walked(part)]
    if isinstance(node, ast.Call) and isinstance(node.func, ast.Attribute) and node.func.attr in ("items", "keys", "values"):
        return [ast.unparse(node.func.value)]
    return [ast.unparse(node)]


if __name__ == "__main__":
    unittest.main()
