"""The rules of LANGUAGE.md, as far as a look at the files of the package can see them.

Some are looked at more strictly than they are written: what the package does not need is not allowed here.
"""

import ast
import builtins
import os
import re
import unittest

PACKAGE = os.path.join(os.path.dirname(os.path.dirname(os.path.abspath(__file__))), "ownharm")
ORDER = ["errors", "rooms", "roomtexts", "meaning", "alone", "sections", "sectiontexts", "machine", "compiling", "boards",
         "changes", "passes", "rows", "rowtexts", "viewtrees", "making", "explaining", "wishes", "levels", "partners", "bench",
         "desk"]
BUILTINS = set((
    "len range enumerate zip min max sum abs sorted reversed int str bool list tuple dict set isinstance ord repr any all "
    "divmod super property Exception ValueError TypeError KeyError IndexError LookupError"
).split())
METHODS = set((
    "append clear copy count endswith extend find get index insert isalnum isalpha isdigit islower isspace isupper items "
    "join keys ljust lower lstrip partition pop remove replace reverse rfind rjust rpartition rsplit rstrip setdefault "
    "split splitlines startswith strip update upper values zfill bit_length isascii add discard __init__"
).split())
DUNDERS = {"__init__", "__eq__", "__repr__", "__str__", "__len__"}
BARRED = set((
    "register mro elements open input law version_info with_traceback add_note attrgetter breakpoint builtins compile "
    "copyright credits delattr dir eval exec exit gc getattr globals hasattr help id importlib license locals methodcaller "
    "os quit setattr type vars sys __name__"
).split())
BARRED_ATTRIBUTES = set((
    "items keys values pop update append clear extend insert remove reverse setdefault sort args encode decode hex fromhex "
    "format format_map mro open input register elements law"
).split())
BARRED_WORDS = ["type", "typing", "enum", "Enum", "Flag", "Generic", "Protocol", "ABC", "namedtuple", "NamedTuple",
                "TypedDict", "abstractmethod"]
NODES = (
    ast.Global, ast.AsyncFunctionDef, ast.AsyncFor, ast.AsyncWith, ast.Await, ast.Lambda, ast.GeneratorExp, ast.Yield,
    ast.YieldFrom, ast.With, ast.Match, ast.NamedExpr, ast.Nonlocal, ast.Import, ast.Div, ast.MatMult, ast.AnnAssign,
    ast.Set, ast.SetComp, ast.Assert,
)


def files():
    """The names of the modules of the package and their paths."""
    return {name[:-3]: os.path.join(PACKAGE, name) for name in sorted(os.listdir(PACKAGE)) if name.endswith(".py")}


def text_of(path):
    with open(path, encoding="utf-8", newline="") as file:
        return file.read()


def trees():
    return {name: ast.parse(text_of(path)) for name, path in files().items()}


def functions_in(tree):
    return [node for node in ast.walk(tree) if isinstance(node, ast.FunctionDef)]


def classes_in(tree):
    return [node for node in tree.body if isinstance(node, ast.ClassDef)]


def imports_in(tree):
    return [node for node in tree.body if isinstance(node, ast.ImportFrom)]


def names_bound(tree):
    """All names that functions, parameters, variables, loops and comprehensions bind."""
    found = []
    for node in ast.walk(tree):
        if isinstance(node, ast.Name) and isinstance(node.ctx, (ast.Store, ast.Del)):
            found.append(node.id)
        elif isinstance(node, ast.arg):
            found.append(node.arg)
        elif isinstance(node, (ast.FunctionDef, ast.ClassDef)):
            found.append(node.name)
        elif isinstance(node, ast.alias):
            found.append(node.asname or node.name)
        elif isinstance(node, ast.ExceptHandler) and node.name is not None:
            found.append(node.name)
    return found


class FilesTest(unittest.TestCase):
    def test_folder(self):
        for name in os.listdir(PACKAGE):
            if name != "__pycache__":
                self.assertRegex(name, r"\A[a-z][a-z0-9]*\.py\Z|\A__init__\.py\Z")
                self.assertNotIn(name[:-3], dir(builtins) + sorted(BARRED))
        self.assertLessEqual(len(files()), 100)

    def test_sizes_and_signs(self):
        for name, path in files().items():
            text = text_of(path)
            lines = text.split("\n")
            self.assertLessEqual(len(lines), 400, name)
            self.assertTrue(text.endswith("\n") and not text.endswith("\n\n"), name)
            for at, line in enumerate(lines):
                self.assertLessEqual(len(line), 120, (name, at + 1))
                self.assertEqual(line, line.rstrip(), (name, at + 1))
            self.assertTrue(all(sign == "\n" or " " <= sign <= "~" for sign in text), name)
            for function in functions_in(ast.parse(text)):
                self.assertLessEqual(function.end_lineno - function.lineno + 1, 40, (name, function.name))

    def test_docstrings(self):
        for name, tree in trees().items():
            self.assertTrue(ast.get_docstring(tree), name)
            for node in functions_in(tree) + classes_in(tree):
                if node.name != "__init__":
                    self.assertTrue(ast.get_docstring(node), (name, node.name))


class ImportsTest(unittest.TestCase):
    def test_form_and_definition(self):
        all_trees = trees()
        defined = {}
        for name, tree in all_trees.items():
            defined[name] = {node.name for node in tree.body if isinstance(node, (ast.FunctionDef, ast.ClassDef))}
            defined[name] |= {node.targets[0].id for node in tree.body if isinstance(node, ast.Assign)}
        for name, tree in all_trees.items():
            found = imports_in(tree)
            self.assertEqual(len(found), len([node for node in ast.walk(tree) if isinstance(node, ast.ImportFrom)]))
            self.assertEqual(found, tree.body[1:1 + len(found)], name)
            for node in found:
                if node.module == "math":
                    self.assertLessEqual({alias.name for alias in node.names}, {"gcd", "lcm"})
                    continue
                package, _, module = node.module.partition(".")
                self.assertEqual((package, node.level), ("ownharm", 0))
                for alias in node.names:
                    self.assertIsNone(alias.asname)
                    self.assertIn(alias.name, defined[module], name)

    def test_each_import_is_used(self):
        for name, tree in trees().items():
            used = {node.id for node in ast.walk(tree) if isinstance(node, ast.Name)}
            for node in imports_in(tree):
                for alias in node.names:
                    self.assertIn(alias.name, used, name)

    def test_order_and_no_cycles(self):
        needs = {name: [node.module.split(".")[1] for node in imports_in(tree) if node.module != "math"] for name, tree in trees().items()}

        def reached(name, way):
            self.assertNotIn(name, way)
            found = set()
            for other in needs[name]:
                found |= {other} | reached(other, way + [name])
            return found

        for name in needs:
            found = reached(name, [])
            if name in ORDER:
                self.assertLessEqual(found & set(ORDER), set(ORDER[:ORDER.index(name)]))


class CodeTest(unittest.TestCase):
    def test_module_level(self):
        for name, tree in trees().items():
            for node in tree.body[1:]:
                self.assertIsInstance(node, (ast.ImportFrom, ast.FunctionDef, ast.ClassDef, ast.Assign), name)
                if isinstance(node, ast.Assign):
                    self.assertEqual(len(node.targets), 1)
                    self.assertIsInstance(node.targets[0], ast.Name)
                    if ast.unparse(node.value) == "-1":
                        continue
                    for inner in ast.walk(node.value):
                        self.assertIsInstance(inner, (ast.Constant, ast.Tuple, ast.Dict, ast.List, ast.Name, ast.Load))
            top = names_bound(ast.Module([node for node in tree.body if isinstance(node, ast.ImportFrom)], []))
            top += [node.name for node in tree.body if isinstance(node, (ast.FunctionDef, ast.ClassDef))]
            top += [node.targets[0].id for node in tree.body if isinstance(node, ast.Assign)]
            self.assertEqual(len(top), len(set(top)), name)

    def test_kinds_of_statements_and_expressions(self):
        for name, tree in trees().items():
            for node in ast.walk(tree):
                self.assertNotIsInstance(node, NODES, (name, getattr(node, "lineno", 0)))
                if isinstance(node, ast.Constant):
                    self.assertNotIsInstance(node.value, (float, complex, bytes))
                if isinstance(node, ast.Compare):
                    for sign, right in zip(node.ops, node.comparators):
                        if isinstance(sign, (ast.Is, ast.IsNot)):
                            self.assertTrue(isinstance(right, ast.Constant) and right.value in (None, True, False))

    def test_tries(self):
        own = {node.name for node in classes_in(trees()["errors"])}
        for name, tree in trees().items():
            for node in ast.walk(tree):
                if not isinstance(node, ast.Try):
                    continue
                for handler in node.handlers:
                    self.assertIn(handler.type.id, own)
                    used = [one for one in ast.walk(handler) if isinstance(one, ast.Name) and one.id == handler.name]
                    fields = [one for one in ast.walk(handler) if isinstance(one, ast.Attribute)
                              and isinstance(one.value, ast.Name) and one.value.id == handler.name]
                    self.assertEqual(len(used), len(fields), name)
                for inner in node.finalbody:
                    self.assertIsInstance(inner, ast.If)
                    self.assertRegex(ast.unparse(inner.test), r"\A[a-z]+ is None\Z")
                    self.assertEqual(inner.orelse, [])
                    for one in inner.body:
                        self.assertRegex(ast.unparse(one), r"\Aself\._[a-z]+ = [a-z]+\Z")

    def test_equality(self):
        for name, tree in trees().items():
            for node in functions_in(tree):
                if node.name in ("__eq__", "__len__"):
                    self.assertEqual([type(row) for row in node.body], [ast.Expr, ast.Return], name)

    def test_classes(self):
        for name, tree in trees().items():
            self.assertEqual(len(classes_in(tree)), len([n for n in ast.walk(tree) if isinstance(n, ast.ClassDef)]))
            for owner in classes_in(tree):
                self.assertEqual(owner.decorator_list, [])
                for node in owner.body[1:]:
                    self.assertIsInstance(node, ast.FunctionDef)
                    decorators = [one.id for one in node.decorator_list]
                    self.assertIn(decorators, [[], ["property"]])
                    self.assertTrue(not node.name.startswith("__") or node.name in DUNDERS)
                    self.assertEqual(node.args.args[0].arg, "self")
            for function in functions_in(tree):
                self.assertTrue(all(isinstance(one, ast.Constant) or ast.unparse(one) == "()"
                                    for one in function.args.defaults))
                self.assertEqual((function.args.vararg, function.args.kwarg, function.args.kwonlyargs), (None, None, []))
            for node in tree.body:
                if isinstance(node, ast.FunctionDef):
                    self.assertEqual(node.decorator_list, [])
                    self.assertEqual(len(functions_in(node)), 1)

    def test_names(self):
        for name, tree in trees().items():
            imported = [alias.name for node in imports_in(tree) for alias in node.names]
            owners = [node.name for node in classes_in(tree)]
            for word in names_bound(tree):
                self.assertRegex(word, r"\A(__init__|__len__|__eq__|_?[A-Za-z][A-Za-z0-9_]*|_)\Z")
                self.assertNotIn(word, BARRED)
                self.assertNotIn(word, dir(builtins))
                self.assertIsNone(re.match("_wall|_pe_|_dcw_|_enum_|_cm_|_twin_re_|_lay_|_law_|_stub_|_sre|_cold", word))
            for function in functions_in(tree):
                for word in names_bound(ast.Module(function.body, [])) + [one.arg for one in function.args.args]:
                    self.assertNotIn(word, imported + owners, (name, function.name))
            for node in ast.walk(tree):
                if isinstance(node, ast.Name) and node.id == "_":
                    self.assertIsInstance(node.ctx, ast.Store)

    def test_builtins(self):
        for name, tree in trees().items():
            bound = set(names_bound(tree))
            for node in ast.walk(tree):
                if isinstance(node, ast.Name) and isinstance(node.ctx, ast.Load) and node.id not in bound:
                    self.assertIn(node.id, BUILTINS, (name, node.lineno))

    def test_attributes_and_methods(self):
        methods, attributes, properties = {}, {}, set()
        for name, tree in trees().items():
            for owner in classes_in(tree):
                for node in functions_in(owner):
                    if node.decorator_list:
                        properties.add(node.name)
                    else:
                        methods.setdefault(node.name, []).append(owner.name)
                for node in ast.walk(owner):
                    if isinstance(node, ast.Attribute) and isinstance(node.ctx, ast.Store):
                        attributes.setdefault(node.attr, []).append(owner.name)
        self.assertEqual((properties - {"__init__"}) & set(methods), set())
        self.assertEqual(properties & set(attributes), set())
        self.assertEqual(set(methods) & set(attributes), set())
        for word in [*methods, *attributes, *properties]:
            self.assertNotIn(word, BARRED_ATTRIBUTES)
        for name, tree in trees().items():
            for node in ast.walk(tree):
                if isinstance(node, ast.Attribute):
                    known = node.attr in METHODS or node.attr in methods or node.attr in attributes or node.attr in properties
                    self.assertTrue(known, (name, node.lineno, node.attr))

    def test_sets_are_not_stored(self):
        for name, tree in trees().items():
            for node in ast.walk(tree):
                for inner in ast.iter_child_nodes(node):
                    if isinstance(inner, ast.Call) and isinstance(inner.func, ast.Name) and inner.func.id == "set":
                        self.assertTrue(isinstance(node, ast.Call) and node.func.id in ("len", "sorted"), name)

    def test_all_and_any_take_lists(self):
        for name, tree in trees().items():
            for node in ast.walk(tree):
                if isinstance(node, ast.Call) and isinstance(node.func, ast.Name) and node.func.id in ("all", "any"):
                    self.assertIsInstance(node.args[0], ast.ListComp, (name, node.lineno))

    def test_words_and_strings(self):
        for name, tree in trees().items():
            docs = [ast.get_docstring(node, False) for node in ast.walk(tree)
                    if isinstance(node, (ast.Module, ast.FunctionDef, ast.ClassDef))]
            for node in ast.walk(tree):
                if isinstance(node, ast.Constant) and isinstance(node.value, str):
                    self.assertNotIn("%", node.value)
                    self.assertIsNone(re.match("__.*__\\Z", node.value))
                    if node.value not in docs:
                        for word in BARRED_WORDS:
                            self.assertIsNone(re.search(rf"\b{word}\b", node.value))
                if isinstance(node, ast.Raise) and node.exc is not None:
                    self.assertTrue(isinstance(node.exc, ast.Call) and isinstance(node.exc.func, ast.Name))
            self.assertNotIn("\\x", text_of(files()[name]))

    def test_init_defines_nothing(self):
        self.assertEqual(len(trees()["__init__"].body), 1)


if __name__ == "__main__":
    unittest.main()
