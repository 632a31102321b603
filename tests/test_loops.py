"""Rules L5 and L23: what loops go over, read off the files of the package by the names in them."""

import ast
import unittest

from tests.test_language import files

COPYING = ("list", "tuple", "dict", "sorted", "sum", "any", "all", "enumerate", "zip")
LAZY = ("range", "zip", "enumerate", "reversed", "map")
VIEWS = ("items", "keys", "values")
CHANGING = ("append", "extend", "insert", "pop", "remove", "clear", "reverse", "sort",
            "setdefault", "update", "add", "discard")
LOOPS = (ast.For, ast.ListComp, ast.SetComp, ast.DictComp, ast.GeneratorExp)


def called(node):
    """The bare name that a call calls, or None."""
    if isinstance(node, ast.Call) and isinstance(node.func, ast.Name):
        return node.func.id
    return None


def method(node):
    """The name of the method that a call calls, or None."""
    if isinstance(node, ast.Call) and isinstance(node.func, ast.Attribute):
        return node.func.attr
    return None


def walked_by(node):
    """The expressions that a loop or a comprehension goes over."""
    if isinstance(node, ast.For):
        return [node.iter]
    return [part.iter for part in node.generators] if isinstance(node, LOOPS) else []


def used_on_the_spot(node):
    """The parts of a node that may be a range, a zip or the like, as the node goes through them."""
    if called(node) in COPYING:
        return node.args
    if called(node) in ("min", "max") and len(node.args) == 1:
        return node.args
    if called(node) == "len":
        return [part for part in node.args if called(part) == "range" or method(part) in VIEWS]
    if called(node) == "reversed":
        return [part for part in node.args if called(part) == "range"]
    if method(node) == "join" and isinstance(node.func.value, ast.Constant):
        return node.args
    if isinstance(node, ast.Compare) and isinstance(node.ops[0], (ast.In, ast.NotIn)):
        return [part for part in node.comparators if called(part) == "range" or method(part) == "keys"]
    return walked_by(node)


def kept_plainly(function):
    """The values that plain local variables keep which the function assigns only once."""
    stored = [node.id for node in ast.walk(function)
              if isinstance(node, ast.Name) and isinstance(node.ctx, ast.Store)]
    return [node.value for node in ast.walk(function) if isinstance(node, ast.Assign)
            and [stored.count(getattr(target, "id", None)) for target in node.targets] == [1]]


def functions_of(tree):
    return [node for node in ast.walk(tree) if isinstance(node, ast.FunctionDef)]


def wrongly_kept(source):
    """The lines with a range, a zip or the like that is neither gone through on the spot nor kept plainly."""
    tree = ast.parse(source)
    right = [part for node in ast.walk(tree) for part in used_on_the_spot(node)]
    right.extend([part for function in functions_of(tree) for part in kept_plainly(function)])
    return [node.lineno for node in ast.walk(tree)
            if (called(node) in LAZY or method(node) in VIEWS) and node not in right]


def named(node):
    """The names of what an expression may be, or be a part of, where it is no copy."""
    if isinstance(node, ast.Name):
        return [node.id]
    if isinstance(node, ast.Attribute):
        return [f"{name}.{node.attr}" for name in named(node.value)]
    if isinstance(node, ast.Subscript):
        return [] if isinstance(node.slice, ast.Slice) else named(node.value)
    if isinstance(node, ast.IfExp):
        return named(node.body) + named(node.orelse)
    if isinstance(node, ast.BoolOp):
        return [name for part in node.values for name in named(part)]
    if called(node) in ("zip", "enumerate", "reversed"):
        return [name for part in node.args for name in named(part)]
    return named(node.func.value) if method(node) in VIEWS else []


def pairs_of(target, value):
    """The tuples (target, value) of an assignment after which both may be one list."""
    if isinstance(target, ast.Tuple) and isinstance(value, ast.Tuple):
        return list(zip(target.elts, value.elts))
    # What takes an item out of one list and puts it into another one leaves two lists.
    both = isinstance(target, ast.Subscript) and isinstance(value, ast.Subscript)
    return [] if both else [(target, value)]


def groups_of(function):
    """For each name that is given to another one: all names that may mean the same list."""
    groups = {}
    for node in ast.walk(function):
        for target in node.targets if isinstance(node, ast.Assign) else []:
            for left, right in pairs_of(target, node.value):
                names = named(left) + named(right)
                whole = set(names).union(*[groups.get(name, ()) for name in names])
                groups.update({name: whole for name in whole})
    return groups


def changed_in(node):
    """The names of what a statement or an expression changes."""
    if isinstance(node, (ast.Subscript, ast.Attribute)) and not isinstance(node.ctx, ast.Load):
        return named(node.value)
    if isinstance(node, ast.AugAssign):
        return named(node.target)
    return named(node.func.value) if method(node) in CHANGING else []


def parts_of(loop):
    """The parts of a loop or a comprehension in which what it goes over must stay."""
    if isinstance(loop, ast.For):
        return loop.body
    return [loop.key, loop.value] if isinstance(loop, ast.DictComp) else [loop.elt]


def wrongly_changed(source):
    """The lines that change what a loop around them goes over, as far as the names tell."""
    found = set()
    for function in functions_of(ast.parse(source)):
        groups = groups_of(function)
        for loop in [node for node in ast.walk(function) if isinstance(node, LOOPS)]:
            names = [name for part in walked_by(loop) for name in named(part)]
            walked = set(names).union(*[groups.get(name, ()) for name in names])
            for node in [inner for part in parts_of(loop) for inner in ast.walk(part)]:
                if walked & set(changed_in(node)):
                    found.add(node.lineno)
    return sorted(found)


def function(*lines):
    return "\n".join(["def told(xs, ys):"] + [f"    {line}" for line in lines])


class PackageTest(unittest.TestCase):
    def test_ranges_and_the_like_are_gone_through_on_the_spot_or_kept_plainly(self):
        for path in files():
            self.assertEqual(wrongly_kept(path.read_text()), [], path.name)

    def test_no_loop_changes_what_it_goes_over(self):
        for path in files():
            self.assertEqual(wrongly_changed(path.read_text()), [], path.name)


class KeptTest(unittest.TestCase):
    def check(self, line, expected):
        self.assertEqual(wrongly_kept(function(line)), expected, line)

    def test_right_lines(self):
        for line in ("for x in range(3): pass", "return [x for x in zip(xs, ys)]", "return list(xs.items())",
                     "return sum(range(3))", "return max(xs.values(), default=0)", "return xs in range(3)",
                     "return [x for x in reversed(range(3))]", "return ', '.join(map(str, xs))",
                     "row = range(3)", "row = zip(xs, ys)", "return len(xs.items())"):
            self.check(line, [])

    def test_wrong_lines(self):
        for line in ("row = range(3) if xs else [1]", "row = xs or range(3)", "return range(3)",
                     "row = [range(3)]", "xs[0] = range(3)", "xs.row = zip(xs, ys)", "told(xs, range(3))",
                     "row = other = range(3)", "row, other = range(2)", "return max(xs, range(3))",
                     "return len(zip(xs, ys))", "return xs.keys() == ys"):
            self.check(line, [2])

    def test_a_variable_that_is_assigned_twice(self):
        self.assertEqual(wrongly_kept(function("row = range(3)", "row = xs")), [2])


class ChangedTest(unittest.TestCase):
    def check(self, lines, expected):
        self.assertEqual(wrongly_changed(function(*lines)), expected, lines)

    def test_right_loops(self):
        for walked in ("list(xs)", "ys", "sorted(xs)", "enumerate(list(xs))", "xs[1:]", "ys.xs"):
            self.check([f"for x in {walked}:", "    xs.append(x)"], [])
        self.check(["edge = xs", "for x in list(edge):", "    xs.append(x)"], [])
        self.check(["for x in xs:", "    ys.append(x)", "xs.append(1)"], [])
        self.check(["for x in xs:", "    xs = [x]"], [])

    def test_wrong_loops(self):
        for walked in ("xs", "enumerate(xs)", "zip(ys, xs)", "reversed(xs)", "xs.items()", "xs[0]",
                       "xs if ys else []", "ys or xs"):
            for change in ("xs.append(x)", "xs[0] = x", "xs[0][1] = x", "del xs[0]", "xs += [x]", "xs[0].pop()",
                           "xs[0] += 1", "xs[1:] = []"):
                self.check([f"for x in {walked}:", "    if x:", f"        {change}"], [4])
        self.check(["for x in xs.row:", "    xs.row.append(x)"], [3])
        self.check(["return [xs.pop() for x in xs]"], [2])
        self.check(["return {x: xs.pop() for x in xs}"], [2])

    def test_other_names_of_what_is_gone_over(self):
        for given in ("edge = xs", "xs = edge", "edge = xs if ys else []", "edge = ys or xs", "ys, edge = 1, xs",
                      "edge = ys = xs", "edge = xs[0]"):
            self.check([given, "for x in edge:", "    xs.append(x)"], [4])
        self.check(["while xs:", "    beyond = []", "    for x in xs:", "        beyond.append(x)",
                    "    xs = beyond"], [5])
        self.check(["first = xs", "edge = first", "for x in edge:", "    xs.append(x)"], [5])


if __name__ == "__main__":
    unittest.main()
