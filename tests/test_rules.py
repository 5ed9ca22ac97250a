"""Checks rules of the language that concern several places of the package at once."""

import ast
import unittest

from test_language import package_files, source

RULED = ("__eq__", "__str__", "__repr__", "__len__")
SPARED = ("__init__", "__enter__", "__exit__", "__call__", "__iter__", "__setitem__")
FRESH_CALLS = ("list", "dict", "sorted")
MODIFYING = (
    "append", "extend", "insert", "pop", "remove", "reverse", "clear", "update", "setdefault", "sort", "add", "discard",
)
VIEWS = ("zip", "enumerate", "reversed", "map", "iter")


def is_property(node):
    return any(isinstance(one, ast.Name) and one.id == "property" for one in node.decorator_list)


def targets_of(node):
    """The names that a function assigns, with what they are assigned (None in loops and the like)."""
    for inner in ast.walk(node):
        if isinstance(inner, ast.Assign):
            for target in inner.targets:
                if isinstance(target, ast.Name):
                    yield target.id, inner.value
                else:
                    yield from ((name.id, None) for name in ast.walk(target) if isinstance(name, ast.Name) and isinstance(name.ctx, ast.Store))
        elif isinstance(inner, (ast.For, ast.comprehension)):
            yield from ((name.id, None) for name in ast.walk(inner.target) if isinstance(name, ast.Name))
        elif isinstance(inner, ast.AugAssign) and isinstance(inner.target, ast.Name):
            yield inner.target.id, inner


def is_fresh(value):
    """A list or dict that the function itself creates."""
    if isinstance(value, (ast.List, ast.Dict, ast.ListComp)):
        return True
    return isinstance(value, ast.Call) and isinstance(value.func, ast.Name) and value.func.id in FRESH_CALLS


class RulesTest(unittest.TestCase):
    def setUp(self):
        self.trees = {path: ast.parse(source(path)) for path in package_files()}
        self.functions, self.classes, self.methods, self.properties = {}, {}, {}, {}
        for path, tree in self.trees.items():
            for node in tree.body:
                if isinstance(node, ast.FunctionDef):
                    self.assertFalse(node.name in self.functions, f"two functions are called {node.name}")
                    self.functions[node.name] = (path, node)
                if isinstance(node, ast.ClassDef):
                    self.classes[node.name] = (path, node)
                    for inner in node.body:
                        if isinstance(inner, ast.FunctionDef):
                            table = self.properties if is_property(inner) else self.methods
                            table.setdefault(inner.name, []).append((path, inner, node.name))

    def all_functions(self):
        for path, tree in self.trees.items():
            for node in ast.walk(tree):
                if isinstance(node, ast.FunctionDef):
                    yield path, node

    def called_by(self, node):
        """The functions and methods that a function may call; objects are known by their methods' names alone."""
        for inner in ast.walk(node):
            if isinstance(inner, ast.Call) and isinstance(inner.func, ast.Name):
                name = inner.func.id
                if name in self.functions:
                    yield self.functions[name]
                if name in self.classes:
                    yield from (found[:2] for found in self.methods.get("__init__", []) if found[2] == name)
            elif isinstance(inner, ast.Call) and isinstance(inner.func, ast.Attribute):
                if inner.func.attr == "__init__":
                    yield from (found[:2] for found in self.methods["__init__"] if found[2] == "Formula")
                else:
                    yield from (found[:2] for found in self.methods.get(inner.func.attr, []))
            elif isinstance(inner, ast.Attribute):
                yield from (found[:2] for found in self.properties.get(inner.attr, []))

    def test_operators_and_properties_change_nothing(self):
        waiting = [found[:2] for table in self.properties.values() for found in table]
        for name, found in self.methods.items():
            if name.startswith("__") and name not in SPARED:
                waiting += [one[:2] for one in found]
        seen = []
        while waiting:
            path, node = waiting.pop()
            if node not in seen:
                seen.append(node)
                self.check_pure(path, node)
                waiting += list(self.called_by(node))
        self.assertGreater(len(seen), 60)

    def check_pure(self, path, node):
        where = (path, node.name)
        assigned = {}
        for name, value in targets_of(node):
            assigned.setdefault(name, []).append(value)
        own = {name for name, values in assigned.items() if all(is_fresh(value) for value in values)}
        for inner in ast.walk(node):
            if isinstance(inner, (ast.Attribute, ast.Subscript)) and isinstance(inner.ctx, (ast.Store, ast.Del)):
                held = inner.value
                if isinstance(inner, ast.Attribute):
                    self.assertEqual((node.name, held.id), ("__init__", "self"), where)
                else:
                    self.assertIn(getattr(held, "id", None), own, where)
            if isinstance(inner, ast.Call) and isinstance(inner.func, ast.Attribute) and inner.func.attr in MODIFYING:
                self.assertIn(getattr(inner.func.value, "id", None), own, where)
            if isinstance(inner, ast.AugAssign):
                self.assertIsInstance(inner.target, ast.Name, where)
                self.assertIsInstance(inner.value, ast.Constant, where)
            if isinstance(inner, ast.Call) and isinstance(inner.func, ast.Name):
                # Nothing is called that was passed or is held.
                self.assertNotIn(inner.func.id, set(assigned) | {one.arg for one in node.args.args}, where)

    def test_names_of_properties_methods_and_attributes(self):
        attributes = set()
        for _, node in self.all_functions():
            for inner in ast.walk(node):
                if isinstance(inner, ast.Attribute) and isinstance(inner.ctx, ast.Store):
                    attributes.add(inner.attr)
        self.assertEqual(set(self.properties) & set(self.methods), set())
        self.assertEqual(set(self.properties) & attributes, set())
        self.assertEqual(set(self.methods) & attributes, set())
        plain = [name for kind in (str, int, list, dict, set, bytes, tuple) for name in dir(kind)]
        names = set(self.properties) | attributes | {name for name in self.methods if not name.startswith("__")}
        self.assertEqual(names & set(plain) - {"count", "index", "title", "find", "get", "join"}, set())

    def test_no_name_has_two_meanings(self):
        for path, tree in self.trees.items():
            taken = {alias.name for node in tree.body if isinstance(node, ast.ImportFrom) for alias in node.names}
            taken |= {node.name for node in tree.body if isinstance(node, ast.ClassDef)}
            taken |= {node.name for node in tree.body if isinstance(node, ast.FunctionDef)}
            for node in ast.walk(tree):
                if isinstance(node, ast.FunctionDef):
                    names = {name for name, _ in targets_of(node)}
                    names |= {one.arg for one in node.args.args + node.args.kwonlyargs}
                    self.assertEqual(names & taken, set(), (path, node.name))

    def test_no_module_needs_itself(self):
        needs = {
            path: {node.module.removeprefix("matrixforms.") + ".py" for node in tree.body if isinstance(node, ast.ImportFrom)} & set(self.trees)
            for path, tree in self.trees.items()
        }
        done = set()
        while len(done) < len(needs):
            ready = {path for path in needs if needs[path] <= done} - done
            self.assertTrue(ready, sorted(set(needs) - done))
            done |= ready

    def test_every_import_is_used(self):
        for path, tree in self.trees.items():
            used = {node.id for node in ast.walk(tree) if isinstance(node, ast.Name)}
            for node in tree.body:
                if isinstance(node, ast.ImportFrom):
                    for alias in node.names:
                        self.assertIn(alias.name, used, path)

    def test_expressions(self):
        for path, tree in self.trees.items():
            parents = {child: node for node in ast.walk(tree) for child in ast.iter_child_nodes(node)}
            for node in ast.walk(tree):
                # Classes of the package compare and count, so no generator is given to any, sum and the like.
                self.assertNotIsInstance(node, (ast.GeneratorExp, ast.SetComp, ast.Set, ast.Global, ast.Nonlocal, ast.Match), path)
                if isinstance(node, ast.Call) and isinstance(node.func, ast.Name):
                    self.check_call(path, node, parents[node])
                if isinstance(node, ast.Raise) and node.exc is not None:
                    self.assertIsInstance(node.exc, ast.Call, path)
                if isinstance(node, ast.ExceptHandler):
                    for caught in node.type.elts if isinstance(node.type, ast.Tuple) else [node.type]:
                        self.assertIn(caught.id, self.classes, path)
                if isinstance(node, ast.Compare) and isinstance(node.ops[0], (ast.Is, ast.IsNot)):
                    self.assertIsInstance(node.comparators[0], ast.Constant, path)
                if isinstance(node, ast.Assign) and isinstance(node.value, ast.Call):
                    name = getattr(node.value.func, "attr", getattr(node.value.func, "id", None))
                    self.assertNotIn(name, VIEWS + ("items", "keys", "values"), path)

    def check_call(self, path, node, parent):
        name = node.func.id
        if name == "set":
            self.assertIn(parent.func.id, ("sorted", "len"), path)
        if name in VIEWS:
            self.assertIsInstance(parent, (ast.For, ast.comprehension, ast.Call), path)
        if name == "reversed":
            self.assertIn(node.args[0].func.id, ("list", "tuple", "sorted", "range"), path)
        if name in ("gcd", "lcm"):
            self.assertFalse(node.keywords or any(isinstance(one, ast.Starred) for one in node.args), path)

    def test_context_managers(self):
        for path, node, name in self.methods["__exit__"]:
            self.assertIn("__enter__", [inner.name for inner in self.classes[name][1].body if isinstance(inner, ast.FunctionDef)])
            self.assertEqual([one.arg for one in node.args.args], ["self", "kind", "value", "trace"], path)
            for inner in ast.walk(node):
                # Only attributes are assigned, to attributes, behind no other test than that of the kind.
                if isinstance(inner, ast.Assign):
                    self.assertIsInstance(inner.targets[0], ast.Attribute, path)
                    self.assertIsInstance(inner.value, ast.Attribute, path)
                elif isinstance(inner, ast.If):
                    self.assertIn(ast.unparse(inner.test), ("kind is None", "kind is not None"), path)
                elif isinstance(inner, ast.stmt):
                    self.assertIsInstance(inner, ast.FunctionDef, path)
                if isinstance(inner, ast.Name):
                    self.assertIn(inner.id, ("self", "kind"), path)
        for path, node in self.all_functions():
            for inner in ast.walk(node):
                if isinstance(inner, ast.With):
                    for item in inner.items:
                        self.assertIsInstance(item.context_expr, ast.Call, path)
                        self.assertIsInstance(item.optional_vars, (ast.Name, type(None)), path)

    def test_tables_at_module_level_are_only_read(self):
        for path, tree in self.trees.items():
            tables = {node.targets[0].id for node in tree.body if isinstance(node, ast.Assign) and isinstance(node.value, (ast.Dict, ast.List))}
            parents = {child: node for node in ast.walk(tree) for child in ast.iter_child_nodes(node)}
            for node in ast.walk(tree):
                if isinstance(node, ast.Name) and node.id in tables and isinstance(node.ctx, ast.Load):
                    above = parents[node]
                    self.assertIsInstance(above, (ast.Subscript, ast.Compare, ast.Attribute), path)
                    if isinstance(above, ast.Attribute):
                        self.assertEqual(above.attr, "get", path)

    def test_returns_of_special_methods(self):
        for name in ("__str__", "__repr__", "__len__"):
            for path, node, _ in self.methods[name]:
                self.assertIsInstance(node.body[-1], ast.Return, path)
        for path, node in self.classes.values():
            names = [inner.name for inner in node.body if isinstance(inner, ast.FunctionDef)]
            self.assertEqual("__getitem__" in names, "__iter__" in names, (path, node.name))


if __name__ == "__main__":
    unittest.main()
