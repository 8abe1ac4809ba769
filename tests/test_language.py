"""The part of Python that the package keeps to: the rules L1 to L28, as far as the code alone shows them."""

import ast
import builtins
import pathlib
import re
import unittest

PACKAGE = pathlib.Path(__file__).resolve().parent.parent / "namesread"
FILES = sorted(path for path in PACKAGE.rglob("*") if path.is_file() and "__pycache__" not in path.parts)

STATEMENTS = (ast.Assign, ast.AugAssign, ast.If, ast.While, ast.For, ast.Return, ast.Break, ast.Continue, ast.Pass,
              ast.Raise, ast.Try, ast.Expr, ast.FunctionDef, ast.ClassDef, ast.ImportFrom)
EXPRESSIONS = (ast.Constant, ast.List, ast.Tuple, ast.Dict, ast.BinOp, ast.UnaryOp, ast.BoolOp, ast.Compare, ast.IfExp,
               ast.Call, ast.Attribute, ast.Subscript, ast.Slice, ast.ListComp, ast.Name)
OTHERS = (ast.Module, ast.arguments, ast.arg, ast.ExceptHandler, ast.comprehension, ast.alias, ast.keyword,
          ast.expr_context, ast.operator, ast.unaryop, ast.boolop, ast.cmpop)
PLAIN = (ast.Constant, ast.List, ast.Tuple, ast.Dict, ast.Name, ast.UnaryOp, ast.USub, ast.Load)

OWN_NAMES = set("""len range enumerate zip min max sum abs sorted reversed int str bool list tuple dict isinstance ord
    repr any all divmod Exception ValueError TypeError KeyError IndexError LookupError ZeroDivisionError ArithmeticError
    OverflowError RuntimeError NotImplementedError StopIteration""".split())
METHODS = set("""append clear copy count endswith extend find get index insert isalnum isalpha isdigit islower isspace
    isupper items join keys ljust lower lstrip partition pop remove replace reverse rfind rjust rpartition rsplit rstrip
    setdefault split splitlines startswith strip update upper values zfill bit_length""".split())
CHANGING = {"append", "clear", "extend", "insert", "pop", "remove", "reverse", "setdefault", "update"}
WALKED = {"zip", "enumerate", "reversed", "range"}
UNUSED = set("""register mro elements open input version_info with_traceback add_note attrgetter breakpoint builtins
    compile copyright credits delattr dir eval exec exit gc getattr globals hasattr help id importlib license locals
    methodcaller os quit setattr super vars sys format format_map""".split())
WORDS = re.compile(r"\b(type|typing|typing_extensions|enum|Enum|IntEnum|StrEnum|Flag|IntFlag|Generic|Protocol|ABC|"
                   r"ABCMeta|namedtuple|NamedTuple|TypedDict|TYPE_CHECKING|abstractmethod)\b|"
                   r"dataclass|overload|contextmanager")
TAKEN = set(dir(str) + dir(int) + dir(list) + dir(dict) + dir(set) + dir(bytes) + dir(tuple))


def parsed(path):
    return ast.parse(path.read_text(encoding="utf-8"))


def nodes(kind):
    return [(path.name, node) for path in FILES for node in ast.walk(parsed(path)) if isinstance(node, kind)]


def bound_at_top(tree):
    names = []
    for node in tree.body:
        if isinstance(node, ast.Assign):
            names += [target.id for target in node.targets]
        elif isinstance(node, (ast.FunctionDef, ast.ClassDef)):
            names.append(node.name)
        elif isinstance(node, ast.ImportFrom):
            names += [alias.name for alias in node.names]
    return names


def local_names(tree):
    names = {node.arg for node in ast.walk(tree) if isinstance(node, ast.arg)}
    names |= {node.name for node in ast.walk(tree) if isinstance(node, ast.ExceptHandler) and node.name}
    for function in [node for node in ast.walk(tree) if isinstance(node, ast.FunctionDef)]:
        names |= {node.id for node in ast.walk(function) if isinstance(node, ast.Name) and isinstance(node.ctx, ast.Store)}
    return names


def methods_and_values():
    methods = set()
    values = set()
    for name, node in nodes(ast.ClassDef):
        methods |= {method.name for method in node.body}
    for name, node in nodes(ast.Attribute):
        if isinstance(node.ctx, ast.Store):
            values.add(node.attr)
    return methods, values


class FilesTest(unittest.TestCase):
    def test_files_and_signs(self):
        self.assertIn(PACKAGE / "__init__.py", FILES)
        for path in FILES:
            signs = path.read_text(encoding="utf-8")
            self.assertRegex(path.name, r"\A([a-z][a-z0-9_]*|__init__)\.py\Z")
            self.assertFalse(path.stem != "__init__" and hasattr(builtins, path.stem), path.name)
            self.assertEqual(set(re.findall(r"[^\n -~]", signs)), set(), path.name)
            self.assertIsNone(WORDS.search(signs), path.name)
            self.assertLessEqual(len(signs.splitlines()), 400, path.name)
            self.assertLessEqual(max(map(len, signs.splitlines())), 120, path.name)

    def test_functions_are_short(self):
        for name, node in nodes(ast.FunctionDef):
            self.assertLessEqual(node.end_lineno - node.lineno + 1, 40, (name, node.name))

    def test_imports(self):
        drawn = {}
        for path in FILES:
            drawn[path.stem] = set()
            tree = parsed(path)
            for node in [node for node in ast.walk(tree) if isinstance(node, (ast.Import, ast.ImportFrom))]:
                self.assertIsInstance(node, ast.ImportFrom)
                self.assertIn(node, tree.body)
                self.assertRegex(node.module, r"\Anamesread\.[a-z]+\Z")
                source = node.module.split(".")[1]
                drawn[path.stem].add(source)
                made = [target for target in parsed(PACKAGE / (source + ".py")).body
                        if not isinstance(target, ast.ImportFrom)]
                for alias in node.names:
                    self.assertIsNone(alias.asname)
                    self.assertIn(alias.name, bound_at_top(ast.Module(made, [])))
        self.assertEqual(drawn["__init__"], set())
        while drawn:
            free = [stem for stem in drawn if not drawn[stem] & set(drawn)]
            self.assertTrue(free, "files draw from one another")
            for stem in free:
                del drawn[stem]

    def test_tops(self):
        for path in FILES:
            tree = parsed(path)
            self.assertIsNotNone(ast.get_docstring(tree), path.name)
            names = bound_at_top(tree)
            self.assertEqual(len(names), len(set(names)), path.name)
            for node in tree.body[1:]:
                self.assertIsInstance(node, (ast.ImportFrom, ast.FunctionDef, ast.ClassDef, ast.Assign), path.name)
                if isinstance(node, ast.Assign):
                    for part in ast.walk(node.value):
                        self.assertIsInstance(part, PLAIN, (path.name, part.lineno if hasattr(part, "lineno") else 0))


class CodeTest(unittest.TestCase):
    def test_kinds_of_code(self):
        for name, node in nodes(ast.AST):
            where = (name, getattr(node, "lineno", 0), node)
            self.assertIsInstance(node, STATEMENTS + EXPRESSIONS + OTHERS, where)
            self.assertNotIsInstance(node, (ast.Div, ast.MatMult), where)
            if isinstance(node, ast.Assign):
                self.assertEqual(len(node.targets), 1, where)
                self.assertNotIsInstance(node.targets[0], (ast.Tuple, ast.List), where)
            if isinstance(node, (ast.While, ast.For)):
                self.assertEqual(node.orelse, [], where)
            if isinstance(node, ast.Try):
                self.assertEqual(node.finalbody, [], where)
            if isinstance(node, ast.ListComp):
                self.assertEqual(len(node.generators), 1, where)
                self.assertLessEqual(len(node.generators[0].ifs), 1, where)
            if isinstance(node, ast.Constant):
                self.assertIn(type(node.value), (int, str, bool, type(None)), where)
                self.assertNotIn("%", str(node.value), where)

    def test_statements_of_their_own_are_calls(self):
        tops = {ast.dump(parsed(path).body[0], include_attributes=True) for path in FILES}
        for name, node in nodes(ast.Expr):
            if ast.dump(node, include_attributes=True) not in tops:
                self.assertIsInstance(node.value, ast.Call, (name, node.lineno))

    def test_functions_and_classes(self):
        for name, node in nodes(ast.FunctionDef):
            self.assertEqual(node.decorator_list, [])
            arguments = node.args
            self.assertFalse(arguments.vararg or arguments.kwarg or arguments.kwonlyargs or arguments.posonlyargs)
            self.assertIsNone(node.returns)
            self.assertEqual([argument.arg for argument in arguments.args if argument.annotation], [])
        for name, node in nodes(ast.ClassDef):
            self.assertEqual((node.decorator_list, node.keywords), ([], []))
            self.assertLessEqual(len(node.bases), 1)
            for part in node.body:
                self.assertIsInstance(part, ast.FunctionDef)

    def test_names(self):
        for path in FILES:
            tree = parsed(path)
            tops = set(bound_at_top(tree))
            places = {node.name for node in ast.walk(tree) if isinstance(node, ast.ClassDef)}
            places |= {alias.name for node in tree.body if isinstance(node, ast.ImportFrom) for alias in node.names}
            locals_here = local_names(tree)
            self.assertEqual(locals_here & places, set(), path.name)
            for name in locals_here | tops:
                self.assertRegex(name, r"\A[A-Za-z][A-Za-z0-9_]*\Z")
                self.assertFalse(hasattr(builtins, name), (path.name, name))
            used = {node.id for node in ast.walk(tree) if isinstance(node, ast.Name)}
            self.assertEqual(used - tops - locals_here - OWN_NAMES, set(), path.name)
            self.assertEqual((used | tops | locals_here) & UNUSED, set(), path.name)

    def test_methods_and_values(self):
        methods, values = methods_and_values()
        self.assertEqual(methods & values, set())
        self.assertEqual((methods | values) & UNUSED, set())
        self.assertEqual((methods - {"__init__"}) & TAKEN, set())
        self.assertEqual(values & TAKEN, set())
        for name, node in nodes(ast.Attribute):
            self.assertIn(node.attr, methods | values | METHODS, (name, node.lineno))

    def test_methods_are_called_where_they_stand(self):
        methods, values = methods_and_values()
        for path in FILES:
            tree = parsed(path)
            called = {id(node.func) for node in ast.walk(tree) if isinstance(node, ast.Call)}
            for node in ast.walk(tree):
                if isinstance(node, ast.Attribute) and node.attr not in values:
                    self.assertIn(id(node), called, (path.name, node.lineno))
                if isinstance(node, ast.Name) and node.id in OWN_NAMES and node.id[0].islower():
                    self.assertIn(id(node), called, (path.name, node.lineno))

    def test_lists_and_dicts_of_the_top_are_only_read(self):
        for path in FILES:
            tree = parsed(path)
            tops = set(bound_at_top(tree))
            for node in ast.walk(tree):
                if isinstance(node, ast.Call) and isinstance(node.func, ast.Attribute):
                    owner = node.func.value
                    if isinstance(owner, ast.Name) and owner.id in tops:
                        self.assertNotIn(node.func.attr, CHANGING, (path.name, node.lineno))
                if isinstance(node, (ast.Subscript, ast.Attribute)) and isinstance(node.ctx, ast.Store):
                    self.assertFalse(isinstance(node.value, ast.Name) and node.value.id in tops, path.name)

    def test_walked_on_the_spot(self):
        for path in FILES:
            tree = parsed(path)
            walked = {id(node.iter) for node in ast.walk(tree) if isinstance(node, (ast.For, ast.comprehension))}
            for node in ast.walk(tree):
                if isinstance(node, ast.Call) and isinstance(node.func, ast.Name) and node.func.id in WALKED:
                    self.assertIn(id(node), walked, (path.name, node.lineno))

    def test_what_a_loop_walks_is_not_changed(self):
        for name, node in nodes(ast.For):
            walked = {ast.dump(part) for part in ast.walk(node.iter) if isinstance(part, (ast.Name, ast.Attribute))}
            for part in [part for statement in node.body for part in ast.walk(statement)]:
                if isinstance(part, ast.Call) and isinstance(part.func, ast.Attribute) and part.func.attr in CHANGING:
                    self.assertNotIn(ast.dump(part.func.value), walked, (name, part.lineno))
                if isinstance(part, ast.Subscript) and isinstance(part.ctx, ast.Store):
                    self.assertNotIn(ast.dump(part.value), walked, (name, part.lineno))

    def test_keywords(self):
        allowed = {"sorted": {"key", "reverse"}, "min": {"key", "default"}, "max": {"key", "default"}, "sum": {"start"},
                   "enumerate": {"start"}, "zip": {"strict"}}
        for name, node in nodes(ast.Call):
            if isinstance(node.func, ast.Attribute) or node.func.id in OWN_NAMES:
                called = node.func.attr if isinstance(node.func, ast.Attribute) else node.func.id
                self.assertLessEqual({keyword.arg for keyword in node.keywords}, allowed.get(called, set()), name)

    def test_comparisons_and_errors(self):
        for name, node in nodes(ast.Compare):
            for operator, other in zip(node.ops, node.comparators):
                if isinstance(operator, (ast.Is, ast.IsNot)):
                    self.assertIsInstance(other, ast.Constant, (name, node.lineno))
        own = {node.name for name, node in nodes(ast.ClassDef)}
        for name, node in nodes(ast.ExceptHandler):
            self.assertIn(node.type.id, own, (name, node.lineno))
        for name, node in nodes(ast.Raise):
            self.assertIsInstance(node.exc, ast.Call, (name, node.lineno))


if __name__ == "__main__":
    unittest.main()
