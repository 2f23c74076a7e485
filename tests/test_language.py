"""The files of the package keep to the small subset of Python that they are written in (what can be seen by shape)."""

import ast
import builtins
import os
import re
import unittest

ROOT = os.path.dirname(os.path.dirname(os.path.abspath(__file__)))
PACKAGE = os.path.join(ROOT, "nearercamps")
LIBRARY = {"math": {"gcd", "lcm", "isqrt", "comb", "perm", "factorial"},
           "heapq": {"heappush", "heappop", "heapify", "heapreplace", "heappushpop"},
           "itertools": {"product", "combinations", "permutations", "chain", "accumulate", "pairwise", "islice",
                         "zip_longest"},
           "collections": {"defaultdict"}}
BUILTINS = set("""len range enumerate zip min max sum abs sorted reversed int str bool list tuple dict set isinstance
ord repr any all divmod pow Exception ValueError TypeError KeyError IndexError LookupError ZeroDivisionError""".split())
METHODS = set("""append clear copy count endswith extend find get index insert isalnum isalpha isdigit islower isspace
isupper items join keys ljust lower lstrip partition pop remove replace reverse rfind rjust rpartition rsplit rstrip
setdefault split splitlines startswith strip update upper values zfill bit_length add discard""".split())
AT_ONCE = {"zip", "enumerate", "reversed", "range"}
TAKERS = {"list", "tuple", "dict", "sorted", "sum", "any", "all", "enumerate", "zip", "min", "max"}
FORBIDDEN = (ast.Global, ast.AsyncFunctionDef, ast.AsyncFor, ast.AsyncWith, ast.Await, ast.Div, ast.Yield,
             ast.YieldFrom, ast.MatMult)


def files():
    return sorted(name for name in os.listdir(PACKAGE) if name != "__pycache__")


def text_of(name):
    with open(os.path.join(PACKAGE, name), encoding="utf-8") as held:
        return held.read()


def parents_of(tree):
    return {child: node for node in ast.walk(tree) for child in ast.iter_child_nodes(node)}


def calls(tree, names):
    """Yield the calls of bare names among names."""
    for node in ast.walk(tree):
        if isinstance(node, ast.Call) and isinstance(node.func, ast.Name) and node.func.id in names:
            yield node


def is_taken_by(node, parent, takers):
    return isinstance(parent, ast.Call) and isinstance(parent.func, ast.Name) and parent.func.id in takers \
        and node in parent.args


class Language(unittest.TestCase):
    def each(self):
        for name in files():
            tree = ast.parse(text_of(name))
            with self.subTest(file=name):
                yield name, tree

    def test_files_lines_and_signs(self):
        for name in files():
            self.assertTrue(re.fullmatch(r"[a-z][a-z0-9_]*\.py|__init__\.py", name), name)
            text = text_of(name)
            lines = text.splitlines()
            self.assertLessEqual(len(lines), 399, name)
            self.assertLessEqual(max(map(len, lines)), 120, name)
            self.assertTrue(all(sign == "\n" or " " <= sign <= "~" for sign in text), name)

    def test_functions_have_at_most_forty_lines_and_no_decorators_or_defaults(self):
        for name, tree in self.each():
            for node in ast.walk(tree):
                if isinstance(node, (ast.FunctionDef, ast.ClassDef)):
                    self.assertEqual(node.decorator_list, [], name)
                if isinstance(node, ast.FunctionDef):
                    self.assertLessEqual(node.end_lineno - node.lineno + 1, 40, (name, node.name))
                    self.assertEqual(node.args.defaults, [], (name, node.name))

    def test_module_level_and_imports(self):
        imported = {}
        defined = {name: self.bound_names(tree) for name, tree in self.each()}
        for name, tree in self.each():
            imported[name] = []
            for node in tree.body:
                kinds = (ast.ImportFrom, ast.FunctionDef, ast.ClassDef, ast.Assign)
                is_docstring = isinstance(node, ast.Expr) and isinstance(node.value, ast.Constant)
                self.assertTrue(isinstance(node, kinds) or is_docstring, (name, node.lineno))
                if isinstance(node, ast.ImportFrom):
                    self.check_import(name, node, defined, imported[name])
        self.check_no_rings(imported)

    def bound_names(self, tree):
        names = [node.name for node in tree.body if isinstance(node, (ast.FunctionDef, ast.ClassDef))]
        names += [node.targets[0].id for node in tree.body if isinstance(node, ast.Assign)]
        self.assertEqual(len(names), len(set(names)))
        return names

    def check_import(self, name, node, defined, imported):
        self.assertEqual(node.level, 0)
        self.assertTrue(all(part.asname is None for part in node.names))
        if node.module in LIBRARY:
            self.assertTrue({part.name for part in node.names} <= LIBRARY[node.module], name)
            return
        self.assertTrue(node.module.startswith("nearercamps."), name)
        file = node.module.split(".", 1)[1] + ".py"
        for part in node.names:
            self.assertIn(part.name, defined[file], (name, file))
        imported.append(file)

    def check_no_rings(self, imported):
        left = dict(imported)
        while left:
            free = [name for name, others in left.items() if not any(other in left for other in others)]
            self.assertTrue(free, "files import from each other in a ring")
            for name in free:
                del left[name]

    def test_all_imports_are_used(self):
        for name, tree in self.each():
            used = {node.id for node in ast.walk(tree) if isinstance(node, ast.Name)}
            for node in tree.body:
                if isinstance(node, ast.ImportFrom):
                    for part in node.names:
                        self.assertIn(part.name, used, name)

    def test_no_forbidden_statements_or_values(self):
        for name, tree in self.each():
            for node in ast.walk(tree):
                self.assertNotIsInstance(node, FORBIDDEN, (name, getattr(node, "lineno", 0)))
                if isinstance(node, ast.Constant):
                    self.assertNotIsInstance(node.value, float, name)
                if isinstance(node, ast.BinOp) and isinstance(node.op, ast.Pow):
                    self.assertIsInstance(node.right, ast.Constant, (name, node.lineno))
                if isinstance(node, ast.Constant) and isinstance(node.value, str):
                    self.assertNotIn(chr(37), node.value, name)

    def test_only_listed_builtins_and_no_name_has_another_meaning(self):
        for name, tree in self.each():
            imports = {part.name for node in tree.body if isinstance(node, ast.ImportFrom) for part in node.names}
            classes = {node.name for node in tree.body if isinstance(node, ast.ClassDef)}
            for node in ast.walk(tree):
                if isinstance(node, ast.Name) and isinstance(node.ctx, ast.Load) and hasattr(builtins, node.id):
                    self.assertIn(node.id, BUILTINS, (name, node.lineno))
                stored = []
                if isinstance(node, ast.Name) and not isinstance(node.ctx, ast.Load):
                    stored = [node.id]
                elif isinstance(node, ast.arg):
                    stored = [node.arg]
                elif isinstance(node, ast.FunctionDef) and node in tree.body:
                    stored = [node.name]
                for word in stored:
                    self.assertFalse(hasattr(builtins, word), (name, word))
                    self.assertNotIn(word, imports | classes, (name, node.lineno))
                    self.assertTrue(word == "_" or re.fullmatch("_?[A-Za-z][A-Za-z0-9_]*", word), (name, word))

    def test_no_variable_has_the_name_of_a_function_of_its_file(self):
        for name, tree in self.each():
            own = {node.name for node in tree.body if isinstance(node, ast.FunctionDef)}
            for node in ast.walk(tree):
                if isinstance(node, ast.Name) and not isinstance(node.ctx, ast.Load):
                    self.assertNotIn(node.id, own, (name, node.lineno))
                if isinstance(node, ast.arg):
                    self.assertNotIn(node.arg, own, (name, node.lineno))

    def test_ranges_and_their_kin_are_iterated_at_once(self):
        for name, tree in self.each():
            parents = parents_of(tree)
            for call in calls(tree, AT_ONCE):
                parent = parents[call]
                looped = isinstance(parent, (ast.For, ast.comprehension)) and parent.iter is call
                self.assertTrue(looped or is_taken_by(call, parent, TAKERS), (name, call.lineno))

    def test_sets_are_not_kept(self):
        for name, tree in self.each():
            parents = parents_of(tree)
            sets = [node for node in ast.walk(tree) if isinstance(node, (ast.Set, ast.SetComp))]
            for node in sets + list(calls(tree, {"set", "frozenset"})):
                parent = parents[node]
                self.assertTrue(is_taken_by(node, parent, {"sorted", "len"}), (name, node.lineno))

    def test_generator_expressions_do_not_stand_alone(self):
        for name, tree in self.each():
            for node in ast.walk(tree):
                self.assertNotIsInstance(node, ast.GeneratorExp, name)

    def test_only_listed_methods_and_own_ones(self):
        own = set()
        for _, tree in self.each():
            for node in ast.walk(tree):
                if isinstance(node, ast.ClassDef):
                    own |= {part.name for part in node.body if isinstance(part, ast.FunctionDef)}
        for name, tree in self.each():
            for node in ast.walk(tree):
                if isinstance(node, ast.Call) and isinstance(node.func, ast.Attribute):
                    self.assertIn(node.func.attr, METHODS | own, (name, node.lineno))

    def test_loops_do_not_change_what_they_go_over(self):
        for name, tree in self.each():
            for loop in ast.walk(tree):
                if isinstance(loop, ast.For) and isinstance(loop.iter, ast.Name):
                    for node in ast.walk(ast.Module(loop.body, [])):
                        if isinstance(node, ast.Call) and isinstance(node.func, ast.Attribute):
                            changed = isinstance(node.func.value, ast.Name) and node.func.value.id == loop.iter.id
                            self.assertFalse(changed, (name, node.lineno))


if __name__ == "__main__":
    unittest.main()
