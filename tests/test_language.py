"""The package keeps the rules of its language that a look at its code shows, and has its interface."""

import ast
import builtins
import inspect
import importlib
import pathlib
import re
import unittest

PACKAGE = pathlib.Path(__file__).resolve().parent.parent / "onetrace"
MODULES = (
    "errors numbers forms spaces flows flowruns written writtentexts walking coded codetexts running leading papers "
    "finding small joins linking compiling passes rewriting changes house logs papertexts desk").split()
USED = (
    "len range enumerate zip min max sum abs sorted reversed int str bool list tuple dict set isinstance ord repr any "
    "all divmod ValueError KeyError").split()
METHODS = (
    "append clear copy count endswith extend find get index insert isalnum isalpha isdigit islower isspace isupper "
    "items join keys ljust lower lstrip partition pop remove replace reverse rfind rjust rpartition rsplit rstrip "
    "setdefault split splitlines startswith strip update upper values zfill removeprefix removesuffix add").split()
BARRED = (
    "register mro elements open input law version_info with_traceback add_note type typing enum Enum Flag Generic "
    "Protocol ABC namedtuple dataclass overload _cold _tuplegetter _outside _record _written_out "
    "_member_names").split()
STRING_BARRED = (
    "type typing typing_extensions enum Enum IntEnum StrEnum Flag IntFlag Generic Protocol ABC ABCMeta namedtuple "
    "NamedTuple TypedDict TYPE_CHECKING abstractmethod dataclass overload contextmanager").split()
STATEMENTS = (
    ast.FunctionDef, ast.ClassDef, ast.Return, ast.Assign, ast.AugAssign, ast.For, ast.While, ast.If, ast.Raise,
    ast.ImportFrom, ast.Expr, ast.Pass, ast.Break, ast.Continue, ast.Delete, ast.Try)
NOT_USED = (
    ast.GeneratorExp, ast.Div, ast.MatMult, ast.Pow, ast.Await, ast.Yield, ast.YieldFrom, ast.NamedExpr,
    ast.Global, ast.Nonlocal, ast.With, ast.Match, ast.Set, ast.SetComp)
DUNDERS = ("__init__", "__eq__", "__len__")


def files():
    return sorted(PACKAGE.glob("*.py"))


def trees():
    for path in files():
        yield path.name, ast.parse(path.read_text())


def bound(tree):
    """All names that functions bind: parameters, targets, nested functions."""
    for node in ast.walk(tree):
        if isinstance(node, ast.arg):
            yield node.arg
        elif isinstance(node, ast.Name) and not isinstance(node.ctx, ast.Load):
            yield node.id


def kind_names(tree):
    """The names `type` that stand in type(x).__name__, as they may."""
    return [node.value.func for node in ast.walk(tree)
            if isinstance(node, ast.Attribute) and node.attr == "__name__" and isinstance(node.value, ast.Call)
            and isinstance(node.value.func, ast.Name) and isinstance(node.value.args[0], ast.Name)]


def is_none_test(node):
    return isinstance(node.comparators[-1], ast.Constant) and node.comparators[-1].value in (None, True, False)


class Files(unittest.TestCase):
    def test_names(self):
        for path in PACKAGE.iterdir():
            if path.name != "__pycache__":
                self.assertEqual(path.suffix, ".py", path.name)
                self.assertIn(path.stem, MODULES + ["__init__"])

    def test_sizes_and_signs(self):
        for path in files():
            text = path.read_bytes()
            self.assertTrue(all(code == 10 or 32 <= code < 127 for code in text), path.name)
            lines = text.decode().split("\n")
            self.assertLessEqual(len(lines), 399, path.name)
            self.assertLessEqual(max(len(line) for line in lines), 120, path.name)
            self.assertTrue(all(line == line.rstrip() for line in lines), path.name)

    def test_init_binds_nothing(self):
        tree = ast.parse((PACKAGE / "__init__.py").read_text())
        self.assertTrue(all(isinstance(node, ast.Expr) for node in tree.body))

    def test_modules_use_those_ahead_alone(self):
        for name, tree in trees():
            for node in ast.walk(tree):
                self.assertNotIsInstance(node, ast.Import)
                if isinstance(node, ast.ImportFrom):
                    self.assertIn(node, tree.body)
                    package, module = node.module.split(".")
                    self.assertEqual((package, node.level), ("onetrace", 0))
                    self.assertLess(MODULES.index(module), MODULES.index(name[:-3]), name)
                    made = {inner.name for inner in ast.parse((PACKAGE / f"{module}.py").read_text()).body
                            if isinstance(inner, (ast.FunctionDef, ast.ClassDef))}
                    for alias in node.names:
                        self.assertIsNone(alias.asname)
                        self.assertTrue(alias.name in made or alias.name.isupper(), (name, alias.name))


class Rules(unittest.TestCase):
    def test_functions_are_short(self):
        for name, tree in trees():
            for node in ast.walk(tree):
                if isinstance(node, ast.FunctionDef):
                    self.assertLessEqual(node.end_lineno - node.lineno + 1, 40, (name, node.name))
                    self.assertEqual(node.decorator_list, [])

    def test_statements_and_expressions(self):
        for name, tree in trees():
            for node in ast.walk(tree):
                where = (name, getattr(node, "lineno", 0))
                if isinstance(node, ast.stmt):
                    self.assertIsInstance(node, STATEMENTS, where)
                self.assertNotIsInstance(node, NOT_USED, where)
                if isinstance(node, ast.Compare) and isinstance(node.ops[-1], (ast.Is, ast.IsNot)):
                    self.assertTrue(is_none_test(node), where)
                if isinstance(node, ast.Constant):
                    self.assertNotIsInstance(node.value, (float, complex, bytes), where)
                    if isinstance(node.value, str):
                        self.assertNotIn("%", node.value, where)

    def test_module_level(self):
        for name, tree in trees():
            seen = []
            for node in tree.body:
                if isinstance(node, ast.Assign):
                    self.assertEqual([len(node.targets), type(node.targets[0])], [1, ast.Name], name)
                    seen.append(node.targets[0].id)
                elif isinstance(node, (ast.FunctionDef, ast.ClassDef)):
                    seen.append(node.name)
                elif isinstance(node, ast.ImportFrom):
                    seen.extend(alias.name for alias in node.names)
                else:
                    self.assertIsInstance(node, ast.Expr, name)
            self.assertEqual(len(seen), len(set(seen)), name)
            self.assertFalse(set(seen) & set(dir(builtins)), name)

    def test_names_are_bound_plainly(self):
        for name, tree in trees():
            taken = {node.name for node in tree.body if isinstance(node, ast.ClassDef)}
            made = {node.name for node in tree.body if isinstance(node, ast.FunctionDef)}
            for node in tree.body:
                if isinstance(node, ast.ImportFrom):
                    taken |= {alias.name for alias in node.names}
            functions = [node for node in tree.body if isinstance(node, (ast.FunctionDef, ast.ClassDef))]
            for function in functions:
                for word in bound(function):
                    self.assertNotIn(word, taken | made, (name, function.name))
                    self.assertFalse(hasattr(builtins, word) and word != "_", (name, word))
                    self.assertNotIn(word, BARRED, name)
                    self.assertRegex(word, r"^(_|_?[A-Za-z][A-Za-z0-9_]*)$")

    def test_underscore_is_never_read(self):
        for name, tree in trees():
            for node in ast.walk(tree):
                if isinstance(node, ast.Name) and node.id == "_":
                    self.assertIsInstance(node.ctx, ast.Store, name)

    def test_builtins(self):
        for name, tree in trees():
            shown = kind_names(tree)
            for node in ast.walk(tree):
                if isinstance(node, ast.Name) and isinstance(node.ctx, ast.Load) and hasattr(builtins, node.id):
                    self.assertTrue(node.id in USED or node in shown, (name, node.lineno))

    def test_methods(self):
        own = {inner.name for _, tree in trees() for node in tree.body if isinstance(node, ast.ClassDef)
               for inner in node.body if isinstance(inner, ast.FunctionDef)}
        own_kinds = {node.name for _, tree in trees() for node in tree.body if isinstance(node, ast.ClassDef)}
        for name, tree in trees():
            for node in ast.walk(tree):
                if isinstance(node, ast.Call) and isinstance(node.func, ast.Attribute):
                    word = node.func.attr
                    self.assertTrue(word in METHODS or word in own, (name, node.lineno, word))
                    if word.startswith("__"):
                        self.assertIn(node.func.value.id, own_kinds)

    def test_classes(self):
        for name, tree in trees():
            for node in ast.walk(tree):
                if isinstance(node, ast.ClassDef):
                    methods = [inner.name for inner in node.body if isinstance(inner, ast.FunctionDef)]
                    self.assertEqual(len(methods), len(set(methods)))
                    stored = {inner.attr for inner in ast.walk(node)
                              if isinstance(inner, ast.Attribute) and isinstance(inner.ctx, ast.Store)}
                    self.assertFalse(stored & set(methods), (name, node.name))
                    for word in methods + sorted(stored):
                        self.assertTrue(word in DUNDERS or not word.startswith("__"), (name, word))
                        self.assertFalse(any(hasattr(kind, word) for kind in (str, int, list, dict, set, bytes, tuple))
                                         and word not in DUNDERS, (name, word))

    def test_no_method_is_an_attribute_elsewhere(self):
        methods, stored = {}, set()
        for name, tree in trees():
            for node in ast.walk(tree):
                if isinstance(node, ast.Attribute) and isinstance(node.ctx, ast.Store):
                    stored.add(node.attr)
                if isinstance(node, ast.ClassDef):
                    for inner in node.body:
                        if isinstance(inner, ast.FunctionDef) and inner.name not in DUNDERS:
                            methods.setdefault(inner.name, set()).add(len(inner.args.args))
        self.assertFalse(stored & set(methods))
        # one of a name takes as much as another one, so that each call can be looked at
        self.assertEqual({word for word, sizes in methods.items() if len(sizes) > 1}, set())

    def test_no_barred_words(self):
        for name, tree in trees():
            shown = kind_names(tree)
            for node in ast.walk(tree):
                for field in ("id", "attr", "arg", "name"):
                    word = getattr(node, field, None) or ""
                    self.assertTrue(word not in BARRED or node in shown, name)
                    self.assertFalse(word.startswith(("_wall", "_law_", "_WallAttr", "_pe_", "_lay_")), name)
        for path in files():
            code = re.sub(r'""".*?"""|#.*|\btype(?=\(\w+\)\.__name__)', "", path.read_text())
            for word in re.findall(r"[A-Za-z_]+", code):
                self.assertNotIn(word, STRING_BARRED, path.name)


def shape(function):
    """A function's parameters, `*` ahead of those by name alone, as the document writes them."""
    told = []
    for parameter in inspect.signature(function).parameters.values():
        if parameter.kind == parameter.KEYWORD_ONLY and "*" not in told:
            told.append("*")
        default = parameter.default
        told.append(parameter.name if default is parameter.empty else f"{parameter.name}={default!r}")
    return ", ".join(told)


FUNCTIONS = {
    "numbers": ["is_prime(thing)", "is_number(thing, p)", "is_name(thing)", "is_place(thing)", "inverse(n, p)"],
    "forms": [
        "is_form(thing, p)", "new_form(n, pairs, p)", "sum_of(a, b, p)", "times_of(a, n, p)",
        "put_in(form, forms, p)", "worth_of(form, worths, p)", "places_in(form)", "form_text(form)",
        "read_form(text, p)"],
    "spaces": [
        "is_rows(thing, width, p)", "reduced(rows, p)", "follows(rows, row, p)", "product_of(row, other, p)",
        "nulls_of(rows, width, p)", "common(one, other, width, p)", "without(rows, columns, width, p)",
        "led_back(row, table, p)"],
    "flowruns": [
        "events_of(flow, letters, *, most=400)", "state_of(flow, letters, *, most=400)", "led_on(flow, number)"],
    "writtentexts": ["written_text(unit)", "read_written(text)"],
    "walking": ["walked(unit, letters, *, most=400)"],
    "codetexts": ["coded_text(unit)", "read_coded(text)"],
    "running": ["ran(unit, letters, *, most=400)"],
    "leading": ["flow_of(unit)"],
    "papers": ["is_paper(one, other, thing)"],
    "finding": ["found(one, other)", "spans_of(one, other)", "is_span(one, other, paper, thing)"],
    "small": ["small_of(flow)"],
    "joins": ["same_paper(flow)", "turned_paper(one, other, paper)", "joined_paper(one, mid, other, first, second)"],
    "linking": [
        "linked(flow, unit, other)", "led_paper(flow, unit, lib, new, paper)", "asker_paper(one, other, paper, unit, lib)",
        "client_of(unit, letters, *, prime=97)"],
    "compiling": ["compiled(unit, *, style='plain')"],
    "passes": ["passed(unit, word)"],
    "rewriting": ["rewrites_of(unit)", "rewritten(unit, rewrite)"],
    "logs": ["log_of(deeds)", "first_wrong(log)", "replayed(log)"],
    "papertexts": ["paper_text(paper)", "read_paper(text)"],
    "desk": ["answers(text)"],
}
METHODS_TOLD = {
    ("house", "House"): [
        "put(self, name, unit)", "drop(self, name)", "claim(self, one, other)", "undo(self)", "names(self)",
        "unit(self, name)", "whole(self, name)", "standing(self)", "history(self)", "all_done(self, deeds)", "notes(self)",
        "twin(self)", "__eq__(self, other)"],
    ("desk", "Desk"): ["say(self, row)"],
}
CLASSES = {
    ("flows", "Flow"): ("places, steps, *, prime=97", "places steps prime deeds __eq__ __len__".split()),
    ("written", "Written"): ("hidden, deeds, *, prime=97", "hidden deeds prime asks __eq__".split()),
    ("coded", "Coded"): ("hidden, deeds, *, prime=97", "hidden deeds prime asks __eq__".split()),
}


class Interface(unittest.TestCase):
    def test_functions(self):
        for module, told in FUNCTIONS.items():
            found = importlib.import_module(f"onetrace.{module}")
            for text in told:
                function = getattr(found, text.partition("(")[0])
                self.assertEqual(f"{function.__name__}({shape(function)})", text)
                self.assertEqual(function.__module__, f"onetrace.{module}")

    def test_classes(self):
        for (module, word), (parameters, methods) in CLASSES.items():
            made = getattr(importlib.import_module(f"onetrace.{module}"), word)
            self.assertEqual(made.__module__, f"onetrace.{module}")
            self.assertEqual(shape(made), parameters)
            for method in methods:
                self.assertIn(method, vars(made), word)

    def test_methods(self):
        for (module, word), told in METHODS_TOLD.items():
            made = getattr(importlib.import_module(f"onetrace.{module}"), word)
            self.assertEqual((made.__module__, shape(made)), (f"onetrace.{module}", ""))
            for text in told:
                function = vars(made)[text.partition("(")[0]]
                self.assertEqual(f"{function.__name__}({shape(function)})", text)
