"""The rules for the package's own files, as far as a walk through their code can see them."""

import ast
import builtins
import os
import re
import unittest

PACKAGE = "reportstold"
FOLDER = os.path.join(os.path.dirname(os.path.dirname(os.path.abspath(__file__))), PACKAGE)

OWN_NAMES = set("""len range enumerate zip min max sum abs sorted reversed int str bool list tuple dict set frozenset
isinstance ord repr any all divmod Exception ValueError TypeError KeyError IndexError LookupError ZeroDivisionError
ArithmeticError OverflowError RuntimeError NotImplementedError AttributeError StopIteration""".split())
METHODS = set("""append clear copy count endswith extend find get index insert isalnum isalpha isdigit islower isspace
isupper items join keys ljust lower lstrip partition pop remove replace reverse rfind rjust rpartition rsplit rstrip
setdefault split splitlines startswith strip update upper values zfill bit_length""".split())
UNUSED_ANYWHERE = set("register mro elements open input version_info with_traceback add_note format format_map".split())
UNUSED_WORDS = set("""type typing typing_extensions enum Enum IntEnum StrEnum Flag IntFlag Generic Protocol ABC ABCMeta
namedtuple NamedTuple TypedDict TYPE_CHECKING abstractmethod""".split())
UNUSED_VALUES = set("""items keys values pop update append clear extend insert remove reverse setdefault sort args encode
format""".split())
WALKED_AT_ONCE = ("zip", "enumerate", "reversed", "range")
WALKERS = ("list", "tuple", "dict", "sorted", "sum", "any", "all", "enumerate", "zip", "min", "max")
STATEMENTS = (ast.Assign, ast.AugAssign, ast.If, ast.While, ast.For, ast.Return, ast.Break, ast.Continue, ast.Pass,
              ast.Raise, ast.Try, ast.Expr, ast.FunctionDef, ast.ClassDef, ast.ImportFrom)
EXPRESSIONS = (ast.Constant, ast.List, ast.Tuple, ast.Dict, ast.Name, ast.BinOp, ast.UnaryOp, ast.BoolOp, ast.Compare,
               ast.IfExp, ast.Call, ast.Attribute, ast.Subscript, ast.Slice, ast.ListComp, ast.JoinedStr,
               ast.FormattedValue, ast.Lambda)


def sources():
    found = {}
    for name in sorted(os.listdir(FOLDER)):
        if name != "__pycache__":
            with open(os.path.join(FOLDER, name), encoding="utf-8") as file:
                found[name] = file.read()
    return found


def is_plain_value(node, functions):
    if isinstance(node, ast.UnaryOp):
        return isinstance(node.op, ast.USub) and is_plain_value(node.operand, functions)
    if isinstance(node, (ast.List, ast.Tuple)):
        return all(is_plain_value(part, functions) for part in node.elts)
    if isinstance(node, ast.Dict):
        return all(is_plain_value(part, functions) for part in node.keys + node.values)
    return isinstance(node, ast.Constant) or isinstance(node, ast.Name) and node.id in functions


def top_faults(tree):
    """What stands at a file's top and may not, with the names that are bound there."""
    faults, functions, bound = [], [], []
    for place, node in enumerate(tree.body):
        if isinstance(node, ast.ImportFrom):
            bound += [each.name for each in node.names]
            if node.level or not node.module.startswith(PACKAGE + ".") or any(e.asname for e in node.names):
                faults.append(("L2", node))
        elif isinstance(node, (ast.FunctionDef, ast.ClassDef)):
            bound.append(node.name)
            if isinstance(node, ast.FunctionDef):
                functions.append(node.name)
        elif isinstance(node, ast.Assign):
            bound.append(node.targets[0].id)
            nested = [part for part in ast.walk(node.value) if isinstance(part, (ast.List, ast.Dict))]
            if not is_plain_value(node.value, functions) or [part for part in nested if part is not node.value]:
                faults.append(("L3", node))
        elif place > 0 or not isinstance(node, ast.Expr) or not isinstance(node.value, ast.Constant):
            faults.append(("L3", node))
    return faults + [("L15", tree.body[0]) for name in set(bound) if bound.count(name) > 1]


def shape_faults(tree):
    faults = []
    for node in ast.walk(tree):
        if isinstance(node, ast.stmt) and not isinstance(node, STATEMENTS):
            faults.append(("L6", node))
        if isinstance(node, ast.expr) and not isinstance(node, EXPRESSIONS):
            faults.append(("L7", node))
        if isinstance(node, ast.Expr) and not isinstance(node.value, ast.Call) and node is not tree.body[0]:
            faults.append(("L6", node))
        if isinstance(node, ast.Assign) and (len(node.targets) > 1 or isinstance(node.targets[0], ast.Tuple)):
            faults.append(("L6", node))
        if isinstance(node, (ast.For, ast.While)) and node.orelse or isinstance(node, ast.Try) and node.finalbody:
            faults.append(("L6", node))
        if isinstance(node, ast.ListComp) and (len(node.generators) > 1 or len(node.generators[0].ifs) > 1):
            faults.append(("L7", node))
        if isinstance(node, (ast.Div, ast.MatMult)) or isinstance(node, ast.Constant) and (
                isinstance(node.value, (float, bytes, complex)) or node.value is ...):
            faults.append(("L7", node))
        if isinstance(node, ast.Compare) and any(isinstance(op, (ast.Is, ast.IsNot)) for op in node.ops):
            if not isinstance(node.comparators[0], ast.Constant):
                faults.append(("L20", node))
        if isinstance(node, ast.BinOp) and isinstance(node.op, ast.Pow):
            faults.append(("L27", node))
        if isinstance(node, ast.Constant) and isinstance(node.value, str) and "%" in node.value:
            faults.append(("L27", node))
    return faults


def definition_faults(tree):
    faults = []
    for node in ast.walk(tree):
        if isinstance(node, ast.FunctionDef):
            taken = node.args
            if taken.vararg or taken.kwarg or taken.kwonlyargs or taken.posonlyargs or node.decorator_list:
                faults.append(("L4", node))
            if node.returns or any(each.annotation for each in taken.args):
                faults.append(("L21", node))
            if node.end_lineno - node.lineno >= 40:
                faults.append(("L10", node))
        if isinstance(node, ast.ClassDef):
            if node.decorator_list or len(node.bases) > 1 or node.keywords or node not in tree.body:
                faults.append(("L5", node))
            if not all(isinstance(part, ast.FunctionDef) for part in node.body):
                faults.append(("L5", node))
    return faults


def name_faults(tree):
    faults = []
    top = {node.name for node in tree.body if isinstance(node, ast.ClassDef)}
    top |= {each.name for node in tree.body if isinstance(node, ast.ImportFrom) for each in node.names}
    for node in ast.walk(tree):
        name = getattr(node, "id", None) or getattr(node, "attr", None) or getattr(node, "arg", None) or (
            getattr(node, "name", None))
        if name is None:
            continue
        if not re.fullmatch("[A-Za-z][A-Za-z0-9_]*", name) and name != "__init__":
            faults.append(("L12", node))
        if name in UNUSED_ANYWHERE or name.startswith(("f_", "tb_", "co_")):
            faults.append(("L17", node))
        bound = isinstance(node, ast.arg) or isinstance(node, ast.Name) and isinstance(node.ctx, ast.Store)
        if bound and (name in top or hasattr(builtins, name)):
            faults.append(("L15", node))
        if isinstance(node, ast.Name) and hasattr(builtins, name) and name not in OWN_NAMES:
            faults.append(("L8", node))
        if isinstance(node, ast.Attribute) and isinstance(node.ctx, ast.Store):
            if name in UNUSED_VALUES or any(hasattr(kind, name) for kind in (str, int, list, dict, set, bytes)):
                faults.append(("L26", node))
    return faults


def call_faults(tree):
    faults = []
    at_once = [node.iter for node in ast.walk(tree) if isinstance(node, (ast.For, ast.comprehension))]
    called = {node.func for node in ast.walk(tree) if isinstance(node, ast.Call)}
    for node in ast.walk(tree):
        if isinstance(node, ast.Call) and isinstance(node.func, ast.Name) and node.func.id in WALKERS:
            at_once += node.args[:1]
    for node in ast.walk(tree):
        if isinstance(node, ast.Call):
            name = getattr(node.func, "id", None) or getattr(node.func, "attr", None)
            if isinstance(node.func, ast.Attribute) and name not in METHODS:
                faults.append(("L25", node))
            walked = name in WALKED_AT_ONCE or isinstance(node.func, ast.Attribute) and name in ("items", "keys", "values")
            if walked and node not in at_once:
                faults.append(("L23", node))
            if any(word.arg not in ("key", "reverse", "default", "start", "strict") for word in node.keywords):
                faults.append(("L22", node))
        if isinstance(node, ast.Name) and node.id in OWN_NAMES and node not in called:
            faults.append(("L22", node))
        if isinstance(node, ast.Attribute) and node.attr in METHODS and node not in called:
            faults.append(("L25", node))
    return faults


def loop_faults(tree):
    """Loops that change what they walk, as far as it is written the same way."""
    faults = []
    changing = ("append", "clear", "extend", "insert", "pop", "remove", "reverse", "setdefault", "update")
    for loop in ast.walk(tree):
        if isinstance(loop, ast.For):
            walked = loop.iter
            while isinstance(walked, ast.Call):
                walked = walked.func.value if isinstance(walked.func, ast.Attribute) else walked.args[0]
            for node in [part for line in loop.body for part in ast.walk(line)]:
                changed = None
                if isinstance(node, ast.Call) and isinstance(node.func, ast.Attribute) and node.func.attr in changing:
                    changed = node.func.value
                if isinstance(node, ast.Subscript) and isinstance(node.ctx, ast.Store):
                    changed = node.value
                if changed is not None and ast.unparse(changed) == ast.unparse(walked):
                    faults.append(("L23", node))
    return faults


class Rules(unittest.TestCase):
    def test_each_file_by_its_code(self):
        checks = (top_faults, shape_faults, definition_faults, name_faults, call_faults, loop_faults)
        for name, text in sources().items():
            tree = ast.parse(text)
            faults = [(rule, name, getattr(node, "lineno", 0)) for check in checks for rule, node in check(tree)]
            self.assertEqual(faults, [])

    def test_each_file_by_its_signs(self):
        for name, text in sources().items():
            self.assertRegex(name, r"\A(__init__|[a-z][a-z0-9_]*)\.py\Z")
            self.assertFalse(name[:-3] in vars(builtins) or name[:-3].startswith(("test", "site", "conftest")), name)
            self.assertRegex(text, r"\A[\n -~]*\Z", name)
            self.assertLessEqual(text.count("\n"), 400, name)
            self.assertLessEqual(max(len(line) for line in text.split("\n")), 120, name)
            self.assertEqual(UNUSED_WORDS & set(re.findall(r"\w+", text)), set(), name)
            self.assertNotRegex(text, r"dataclass|overload|contextmanager|\\[^nt\\'\"]", name)

    def test_names_come_from_the_file_that_defines_them_and_in_no_circle(self):
        trees = {f"{PACKAGE}.{name[:-3]}": ast.parse(text) for name, text in sources().items()}
        drawn = {}
        for module, tree in trees.items():
            imports = [node for node in tree.body if isinstance(node, ast.ImportFrom)]
            drawn[module] = {node.module for node in imports}
            for node in imports:
                defined = {part.name for part in trees[node.module].body if hasattr(part, "name")}
                defined |= {part.targets[0].id for part in trees[node.module].body if isinstance(part, ast.Assign)}
                self.assertLessEqual({each.name for each in node.names}, defined, module)
        while drawn:
            free = [module for module, others in drawn.items() if not others & set(drawn)]
            self.assertNotEqual(free, [], drawn)
            drawn = {module: others for module, others in drawn.items() if module not in free}

    def test_no_name_is_a_method_here_and_a_value_there(self):
        methods, values = set(), set()
        for text in sources().values():
            for node in ast.walk(ast.parse(text)):
                if isinstance(node, ast.ClassDef):
                    methods |= {part.name for part in node.body}
                if isinstance(node, ast.Attribute) and isinstance(node.ctx, ast.Store):
                    values.add(node.attr)
        self.assertEqual(methods & values, set())


if __name__ == "__main__":
    unittest.main()
