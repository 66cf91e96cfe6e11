"""The package's files keep to the part of Python that LANGUAGE.md tells, as far as a look at their trees can say."""

import ast
import builtins
import pathlib
import re
import unittest

FOLDER = pathlib.Path(__file__).resolve().parent.parent / "truceroll"

STATEMENTS = (ast.Assign, ast.AugAssign, ast.If, ast.While, ast.For, ast.Return, ast.Break, ast.Continue, ast.Pass,
              ast.Raise, ast.Try, ast.Expr, ast.FunctionDef, ast.ClassDef, ast.ImportFrom)
EXPRESSIONS = (ast.Constant, ast.Name, ast.List, ast.Tuple, ast.Dict, ast.BinOp, ast.UnaryOp, ast.BoolOp, ast.Compare,
               ast.IfExp, ast.Call, ast.Attribute, ast.Subscript, ast.Slice, ast.ListComp, ast.Lambda, ast.JoinedStr,
               ast.FormattedValue)
OWN_NAMES = set("""len range enumerate zip min max sum abs sorted reversed int str bool list tuple dict set isinstance
    ord repr any all divmod Exception ValueError TypeError KeyError IndexError LookupError ZeroDivisionError
    ArithmeticError OverflowError RuntimeError NotImplementedError AttributeError StopIteration""".split())
OWN_METHODS = set("""append clear copy count endswith extend find get index insert isalnum isalpha isdigit islower
    isspace isupper items join keys ljust lower lstrip partition pop remove replace reverse rfind rjust rpartition
    rsplit rstrip setdefault split splitlines startswith strip update upper values zfill bit_length""".split())
FOREIGN_METHODS = {word for kind in (str, int, list, dict, set, bytes, tuple) for word in dir(kind)} - OWN_METHODS
SHUT_WORDS = re.compile(r"\b(type|typing|typing_extensions|enum|Enum|IntEnum|StrEnum|Flag|IntFlag|Generic|Protocol|ABC"
                        r"|ABCMeta|namedtuple|NamedTuple|TypedDict|TYPE_CHECKING|abstractmethod)\b"
                        r"|dataclass|overload|contextmanager")
SHUT_NAMES = {"register", "mro", "elements", "open", "input", "version_info", "with_traceback", "add_note", "args",
              "format", "format_map"}
KEYWORDS = {"sorted": {"key", "reverse"}, "min": {"key", "default"}, "max": {"key", "default"}, "sum": {"start"},
            "enumerate": {"start"}, "zip": {"strict"}}
KINDS = {"int", "str", "bool", "list", "tuple", "dict"}
WALKED = {"zip", "enumerate", "reversed", "range"}
WALKERS = {"list", "tuple", "dict", "sorted", "sum", "any", "all", "enumerate", "zip"}


def files():
    return sorted(path for path in FOLDER.rglob("*") if "__pycache__" not in path.parts)


def trees():
    return [(path, ast.parse(path.read_text(encoding="ascii"))) for path in files()]


def faults_of_text(text):
    rows = text.split("\n")
    if len(rows) > 401:
        yield "L10 file"
    yield from (f"L10 line {row}" for row in rows if len(row) > 120)
    yield from (f"L14 sign {sign!r}" for sign in text if sign != "\n" and not " " <= sign <= "~")
    yield from (f"L17 {word.group()}" for word in SHUT_WORDS.finditer(text))


def faults_of_node(node):
    if isinstance(node, ast.stmt) and not isinstance(node, STATEMENTS):
        yield "L6 statement"
    if isinstance(node, ast.expr) and not isinstance(node, EXPRESSIONS):
        yield "L7 expression"
    if isinstance(node, ast.Constant) and not isinstance(node.value, (int, str, type(None))):
        yield "L7 value"
    if isinstance(node, ast.Constant) and isinstance(node.value, str) and "%" in node.value:
        yield "L27 sign"
    if isinstance(node, (ast.Div, ast.MatMult)):
        yield "L7 sign"
    if isinstance(node, ast.BinOp) and isinstance(node.op, ast.Pow):
        if not isinstance(node.right, ast.Constant) or not 0 <= node.right.value <= 64:
            yield "L27 power"
    if isinstance(node, ast.comprehension) and (len(node.ifs) > 1 or node.is_async):
        yield "L7 comprehension"
    if isinstance(node, ast.ListComp) and len(node.generators) > 1:
        yield "L7 comprehension"
    if isinstance(node, (ast.For, ast.While)) and node.orelse:
        yield "L6 else behind a loop"
    if isinstance(node, ast.Assign) and (len(node.targets) > 1 or isinstance(node.targets[0], (ast.Tuple, ast.List))):
        yield "L6 targets"
    if isinstance(node, ast.Try) and node.finalbody:
        yield "L6 finally"
    if isinstance(node, ast.Expr) and not isinstance(node.value, (ast.Call, ast.Constant)):
        yield "L6 expression by itself"
    if isinstance(node, ast.ImportFrom) and (node.level or not node.module.startswith("truceroll.")):
        yield "L2 import"
    if isinstance(node, ast.Compare) and any(isinstance(op, (ast.Is, ast.IsNot)) for op in node.ops):
        if not (isinstance(node.comparators[-1], ast.Constant) and node.comparators[-1].value in (None, True, False)):
            yield "L20 is"
    if isinstance(node, ast.FormattedValue):
        if not isinstance(node.value, ast.Name) or node.format_spec or node.conversion not in (-1, ord("r")):
            yield "L7 f-string"
    yield from faults_of_names(node)
    yield from faults_of_defs(node)
    yield from faults_of_calls(node)


def faults_of_calls(node):
    if isinstance(node, ast.Call):
        keywords = {keyword.arg for keyword in node.keywords}
        if not keywords <= KEYWORDS.get(called(node), set()):
            yield f"L22 keywords {keywords}"
        if called(node) == "isinstance":
            kinds = node.args[1].elts if isinstance(node.args[1], ast.Tuple) else [node.args[1]]
            if not all(isinstance(kind, ast.Name) and kind.id in KINDS for kind in kinds):
                yield "L22 isinstance"
    if isinstance(node, ast.ExceptHandler):
        if not isinstance(node.type, ast.Name) or node.type.id in OWN_NAMES - {"KeyError", "ZeroDivisionError"}:
            yield "L19 except"
    if isinstance(node, ast.Raise) and not (isinstance(node.exc, ast.Call) and node.cause is None):
        yield "L19 raise"


def faults_of_names(node):
    if isinstance(node, ast.Name):
        if node.id in dir(builtins) and node.id not in OWN_NAMES:
            yield f"L8 {node.id}"
        if isinstance(node.ctx, ast.Store) and node.id in dir(builtins):
            yield f"L15 {node.id}"
        if node.id.startswith("_") or node.id in SHUT_NAMES:
            yield f"L12 {node.id}"
    if isinstance(node, ast.Attribute):
        if node.attr != "__init__" and (node.attr in FOREIGN_METHODS | SHUT_NAMES or node.attr.startswith("_")):
            yield f"L25 {node.attr}"
    if isinstance(node, ast.arg) and (node.arg in dir(builtins) or node.arg.startswith("_")):
        yield f"L15 {node.arg}"


def faults_of_defs(node):
    if isinstance(node, ast.FunctionDef):
        if node.end_lineno - node.lineno >= 40:
            yield "L10 function"
        signs = node.args
        if node.decorator_list or signs.vararg or signs.kwarg or signs.kwonlyargs or signs.posonlyargs or node.returns:
            yield "L4 parameters"
        if node.name.startswith("_") and node.name != "__init__" or node.name in SHUT_NAMES:
            yield f"L12 {node.name}"
    if isinstance(node, ast.ClassDef):
        if node.decorator_list or node.keywords or len(node.bases) > 1:
            yield "L5 class"
        if not all(isinstance(part, (ast.FunctionDef, ast.Pass)) for part in node.body):
            yield "L5 class body"


def faults_of_sets_and_walks(tree):
    """A set, and what is walked at once, only where L23 and L24 let them stand."""
    walks, sets = set(), set()
    for node in ast.walk(tree):
        if isinstance(node, (ast.For, ast.comprehension)):
            walks.add(node.iter)
        if isinstance(node, ast.Compare) and isinstance(node.ops[-1], (ast.In, ast.NotIn)):
            sets.add(node.comparators[-1])
        if isinstance(node, ast.Call) and node.args:
            if called(node) in WALKERS or called(node) in ("min", "max") and len(node.args) == 1 or is_join(node):
                walks.add(node.args[0])
            if called(node) in ("sorted", "len") and not node.keywords:
                sets.add(node.args[0])
    for node in ast.walk(tree):
        if (called(node) in WALKED or is_view(node)) and node not in walks:
            yield f"L23 line {node.lineno}"
        if called(node) == "set" and node not in sets:
            yield f"L24 line {node.lineno}"


def is_join(node):
    func = node.func
    return isinstance(func, ast.Attribute) and func.attr == "join" and isinstance(func.value, ast.Constant)


def is_view(node):
    return (isinstance(node, ast.Call) and isinstance(node.func, ast.Attribute)
            and node.func.attr in ("items", "keys", "values"))


def walked_by(node):
    """What a loop walks: itself, or through `enumerate`, `zip`, `reversed`, `items` and their like."""
    if isinstance(node, ast.Call) and called(node) in ("enumerate", "zip", "reversed"):
        return [part for below in node.args for part in walked_by(below)]
    if is_view(node):
        return [node.func.value]
    return [node]


def called(node):
    return node.func.id if isinstance(node, ast.Call) and isinstance(node.func, ast.Name) else None


class Language(unittest.TestCase):
    def test_only_plain_files(self):
        names = [str(path.relative_to(FOLDER)) for path in files()]
        self.assertIn("__init__.py", names)
        for name in names:
            self.assertRegex(name, r"\A(__init__|[a-z][a-z0-9_]*)\.py\Z")

    def test_each_file_keeps_to_the_rules(self):
        for path, tree in trees():
            faults = list(faults_of_text(path.read_text(encoding="ascii")))
            faults += list(faults_of_sets_and_walks(tree))
            for node in ast.walk(tree):
                faults += [f"line {getattr(node, 'lineno', 0)}: {fault}" for fault in faults_of_node(node)]
            self.assertEqual(faults, [], path.name)

    def test_the_top_of_each_file(self):
        for path, tree in trees():
            bound = []
            for number, node in enumerate(tree.body):
                if number == 0:
                    self.assertIsInstance(ast.get_docstring(tree), str, path.name)
                else:
                    self.assertIsInstance(node, (ast.ImportFrom, ast.FunctionDef, ast.ClassDef, ast.Assign), path.name)
                bound += [alias.asname or alias.name for alias in getattr(node, "names", [])]
                bound += [node.name] if hasattr(node, "name") else []
                bound += [target.id for target in getattr(node, "targets", [])]
            self.assertEqual(len(bound), len(set(bound)), path.name)

    def test_no_file_draws_from_itself_in_whatever_many_steps(self):
        drawn = {path.stem: [node.module.split(".")[1] for node in tree.body if isinstance(node, ast.ImportFrom)]
                 for path, tree in trees()}
        done = set()
        while len(done) < len(drawn):
            ready = [stem for stem in drawn if stem not in done and set(drawn[stem]) <= done]
            self.assertTrue(ready, drawn)
            done.update(ready)

    def test_names_are_drawn_from_the_file_that_defines_them(self):
        for path, tree in trees():
            for node in tree.body:
                if isinstance(node, ast.ImportFrom):
                    source = ast.parse((FOLDER / (node.module.split(".")[1] + ".py")).read_text(encoding="ascii"))
                    there = {part.name for part in source.body if isinstance(part, (ast.FunctionDef, ast.ClassDef))}
                    there |= {part.targets[0].id for part in source.body if isinstance(part, ast.Assign)}
                    self.assertLessEqual({alias.name for alias in node.names}, there, path.name)

    def test_no_parameter_and_no_local_is_called_like_a_class_or_an_import_of_its_file(self):
        for path, tree in trees():
            shut = {alias.name for node in tree.body if isinstance(node, ast.ImportFrom) for alias in node.names}
            shut |= {node.name for node in tree.body if isinstance(node, ast.ClassDef)}
            inside = {node.arg for node in ast.walk(tree) if isinstance(node, ast.arg)}
            inside |= {node.id for node in ast.walk(tree)
                       if isinstance(node, ast.Name) and isinstance(node.ctx, ast.Store)}
            self.assertEqual(inside & shut, set(), path.name)

    def test_classes_and_functions_of_pythons_own_are_called_where_they_stand(self):
        for path, tree in trees():
            classes = {node.name for node in tree.body if isinstance(node, ast.ClassDef)}
            classes |= {alias.name for node in tree.body if isinstance(node, ast.ImportFrom) for alias in node.names
                        if alias.name[0].isupper() and not alias.name.isupper()}
            fitting = set()
            for node in ast.walk(tree):
                if isinstance(node, ast.Call):
                    fitting |= {node.func}
                    fitting |= set(ast.walk(node.args[1])) if called(node) == "isinstance" else set()
                    fitting |= {keyword.value for keyword in node.keywords if keyword.arg == "key"}
                if isinstance(node, ast.ClassDef):
                    fitting |= set(node.bases)
                if isinstance(node, ast.ExceptHandler):
                    fitting.add(node.type)
                if isinstance(node, ast.Attribute) and node.attr == "__init__":
                    fitting.add(node.value)
            for node in ast.walk(tree):
                if isinstance(node, ast.Name) and node.id in classes | OWN_NAMES:
                    self.assertIn(node, fitting, f"{path.name} line {node.lineno}: {node.id}")

    def test_methods_are_called_where_they_stand(self):
        methods = set(OWN_METHODS)
        for _, tree in trees():
            for node in ast.walk(tree):
                if isinstance(node, ast.ClassDef):
                    methods |= {part.name for part in node.body if isinstance(part, ast.FunctionDef)}
        for path, tree in trees():
            called_there = {node.func for node in ast.walk(tree) if isinstance(node, ast.Call)}
            for node in ast.walk(tree):
                if isinstance(node, ast.Attribute) and node.attr in methods:
                    self.assertIn(node, called_there, f"{path.name} line {node.lineno}: {node.attr}")

    def test_what_a_loop_walks_is_not_changed_in_it(self):
        changing = {"append", "clear", "extend", "insert", "pop", "remove", "reverse", "setdefault", "update"}
        for path, tree in trees():
            for loop in ast.walk(tree):
                if isinstance(loop, ast.For):
                    walked = {ast.unparse(node) for node in walked_by(loop.iter)}
                    for node in ast.walk(ast.Module(body=loop.body, type_ignores=[])):
                        if isinstance(node, ast.Subscript) and isinstance(node.ctx, ast.Store):
                            self.assertNotIn(ast.unparse(node.value), walked, f"{path.name} line {node.lineno}")
                        if isinstance(node, ast.Attribute) and node.attr in changing:
                            self.assertNotIn(ast.unparse(node.value), walked, f"{path.name} line {node.lineno}")

    def test_tops_are_only_read(self):
        for path, tree in trees():
            tops = {node.targets[0].id for node in tree.body if isinstance(node, ast.Assign)
                    and isinstance(node.value, (ast.Dict, ast.List))}
            for node in ast.walk(tree):
                if isinstance(node, ast.Call):
                    handed = {part.id for part in node.args if isinstance(part, ast.Name)}
                    self.assertTrue(called(node) in ("len", "sorted", "list", "dict") or not handed & tops, path.name)
                if isinstance(node, (ast.Return, ast.Assign)) and isinstance(node.value, ast.Name):
                    self.assertNotIn(node.value.id, tops, path.name)

    def test_no_name_is_a_method_and_a_value(self):
        methods, values = set(), set()
        for _, tree in trees():
            for node in ast.walk(tree):
                if isinstance(node, ast.ClassDef):
                    methods |= {part.name for part in node.body if isinstance(part, ast.FunctionDef)}
                if isinstance(node, ast.Attribute) and isinstance(node.ctx, ast.Store):
                    values.add(node.attr)
        self.assertEqual(methods & values, set())


if __name__ == "__main__":
    unittest.main()
