"""What goes over things (ranges, zips, views), and where rule L23 lets it be kept; for the checks of the code."""

import ast

WALKS = ("range", "zip", "enumerate", "reversed")
VIEWS = ("items", "keys", "values")
ONCE = ("list", "tuple", "sorted", "sum", "min", "max", "any", "all")
SPOT = ONCE + ("dict", "enumerate", "zip")
FUNCTIONS = (ast.FunctionDef, ast.Lambda)


def parents_of(tree):
    return {child: node for node in ast.walk(tree) for child in ast.iter_child_nodes(node)}


def called(node):
    """The name of the function, where a node is the call of a plain name."""
    return node.func.id if isinstance(node, ast.Call) and isinstance(node.func, ast.Name) else None


def walk_name(node):
    """The name of what goes over something, where a node makes such a thing."""
    if called(node) in WALKS:
        return called(node)
    if isinstance(node, ast.Call) and isinstance(node.func, ast.Attribute) and node.func.attr in VIEWS and not node.args:
        return node.func.attr
    return None


def is_iterated(node, above):
    """True if a `for` of a statement or of a comprehension goes over the node."""
    return isinstance(above, (ast.For, ast.comprehension)) and above.iter is node


def is_tested(node, above):
    """True if something is looked for in the node."""
    return (isinstance(above, ast.Compare) and node in above.comparators
            and isinstance(above.ops[above.comparators.index(node)], (ast.In, ast.NotIn)))


def is_walked(node, above, word):
    """True if the node is walked through on the spot."""
    if is_iterated(node, above) or called(above) in SPOT and node in above.args:
        return True
    if word in ("range", "keys") and is_tested(node, above):
        return True
    if word == "range":
        return called(above) in ("len", "reversed")
    return word == "items" and called(above) == "len"


def is_used(node, parents, word):
    """True if a kept name is walked through as the rule lets it."""
    above = parents[node]
    if is_iterated(node, above):
        return not isinstance(parents.get(above), ast.GeneratorExp)
    if called(above) in ONCE and above.args[0] is node:
        return True
    if word in ("zip", "enumerate", "reversed"):
        return False
    if called(above) == "len" or is_tested(node, above):
        return True
    if word != "range":
        return False
    if isinstance(above, ast.Subscript) and above.value is node:
        return not isinstance(above.slice, ast.Slice)
    return called(above) in ("enumerate", "reversed", "zip") and is_walked(above, parents[above], called(above))


def owner(node, parents):
    """The function in which a node stands."""
    while node is not None and not isinstance(node, FUNCTIONS):
        node = parents.get(node)
    return node


def inner_reads(function, name):
    """The reads of a name in nested functions, lambdas and generator expressions."""
    inner = [node for node in ast.walk(function) if node is not function
             and isinstance(node, FUNCTIONS + (ast.GeneratorExp,))]
    return [part for node in inner for part in ast.walk(node) if isinstance(part, ast.Name) and part.id == name]


def is_kept_rightly(node, above, parents):
    """True if the node is given a plain local variable, once, that is only walked through."""
    function = owner(node, parents)
    if not (isinstance(above, ast.Assign) and above.value is node and isinstance(function, ast.FunctionDef)):
        return False
    if len(above.targets) != 1 or not isinstance(above.targets[0], ast.Name):
        return False
    name = above.targets[0].id
    names = [part for part in ast.walk(function) if isinstance(part, ast.Name) and part.id == name]
    given = [part for part in names if not isinstance(part.ctx, ast.Load)]
    if len(given) != 1 or name in [arg.arg for arg in function.args.args] or inner_reads(function, name):
        return False
    reads = [part for part in names if isinstance(part.ctx, ast.Load)]
    if walk_name(node) in ("zip", "enumerate", "reversed") and len(reads) != 1:
        return False
    return all(is_used(part, parents, walk_name(node)) for part in reads)


def wrong_rows(text):
    """The numbers of the rows that keep what is to be walked on the spot."""
    tree = ast.parse(text)
    parents = parents_of(tree)
    wrong = []
    for node in ast.walk(tree):
        word = walk_name(node)
        if word is not None:
            above = parents.get(node)
            if not is_walked(node, above, word) and not is_kept_rightly(node, above, parents):
                wrong.append(node.lineno)
    return sorted(wrong)
