"""The rules of the language that a look at the syntax tree can check, and the interface."""

import ast
import builtins
import re
import unittest
from pathlib import Path

PACKAGE = Path(__file__).resolve().parent.parent / "sixasone"
FILES = sorted(PACKAGE.glob("*.py"))
TREES = {path.stem: ast.parse(path.read_text()) for path in FILES}
BUILTINS = set("""len range enumerate zip min max sum abs sorted reversed int str bool bytes list tuple dict set frozenset
isinstance ord repr any all divmod Exception ValueError TypeError KeyError IndexError LookupError ZeroDivisionError
ArithmeticError OverflowError RuntimeError NotImplementedError AttributeError StopIteration NotImplemented iter next map
super property staticmethod classmethod""".split())
LIBRARY = {"math": {"gcd", "lcm", "isqrt", "comb", "perm", "factorial"},
           "heapq": {"heappush", "heappop", "heapify", "heapreplace", "heappushpop"}}
METHODS = set("""append clear copy count endswith extend find get index insert isalnum isalpha isdigit islower isspace
isupper items join keys ljust lower lstrip partition pop remove replace reverse rfind rjust rpartition rsplit rstrip
setdefault split splitlines startswith strip update upper values zfill bit_length isascii""".split())
UNUSED = set("""register mro elements open input law version_info with_traceback add_note attrgetter breakpoint compile
copyright credits delattr dir eval exec exit gc getattr globals hasattr help id importlib license locals methodcaller os
quit setattr type vars sys""".split())
WORDS = re.compile(r"\b(type|typing|enum|Enum|Flag|Generic|Protocol|ABC|NamedTuple|namedtuple|TypedDict|Meta)\b|dataclass")
DUNDERS = set("""init eq repr str len enter exit call iter lt le gt ge add radd sub rsub mul rmul floordiv rfloordiv mod
rmod and rand or ror neg abs bool invert contains getitem setitem""".split())

INTERFACE = {
    "ratios": {"Ratio": "endless of total greatest least read over is_endless is_whole __init__ __add__ __radd__ __sub__ "
                        "__rsub__ __mul__ __rmul__ __floordiv__ __rfloordiv__ __mod__ __rmod__ __neg__ __abs__ __lt__ "
                        "__le__ __gt__ __ge__ __eq__ __bool__ __str__ __repr__"},
    "webs": {"Web": "link net row bunch always never read MOST kind parts links joints names is_plain is_tied without sure "
                    "put net_of __len__ __abs__ __contains__ __str__ __eq__ __and__ __rand__ __or__ __ror__ __invert__ "
                    "__neg__ __sub__ __floordiv__ __le__ __lt__ __ge__ __gt__"},
    "ways": {"ways": "", "least_ways": "", "joined": "", "way_in": "", "is_way": "", "walk_of": ""},
    "cuts": {"cuts": "", "least_cuts": "", "cut_in": "", "is_cut": ""},
    "idles": {"idle": "", "bare": ""},
    "values": {"Values": "__init__ __getitem__ __setitem__ rest set_rest __contains__ __len__ names __eq__ __str__ copy "
                         "two turned over times trial tried"},
    "measures": {
        "Measure": "__call__ paper_of shows better __eq__", "ByWay": "walk_in", "ByCut": "shut_in",
        "Joined": "__init__ __call__ paper_of shows better walk_in shut_in __eq__",
        "Length": "__init__ __call__ paper_of shows better walk_in __eq__",
        "Width": "__init__ __call__ paper_of shows better walk_in shut_in __eq__"},
    "streams": {"is_stream": "", "amount": "", "apart": "", "work": ""},
    "flows": {"Flow": "__init__ __call__ paper_of shows better shut_in __eq__"},
    "eases": {"Ease": "__init__ __call__ paper_of shows better __eq__"},
    "cases": {"tree_of": "", "is_tree": "", "leaves": "", "questions": "", "mass": ""},
    "papers": {"through": "", "turned": "", "beside": "", "behind": "", "fixed": ""},
    "chances": {"Chance": "__init__ __call__ paper_of shows better __eq__"},
    "named": {"measure": "", "WORDS": ""},
    "orders": {"compare": "", "Verdict": "__bool__ paper __eq__", "Above": "__init__", "Apart": "__init__", "alike": ""},
    "lookers": {"shows_above": "", "shows_apart": "", "shows_by_links": ""},
    "partings": {"partings": "", "parted": ""},
    "carrying": {"carry_way": "", "carry_cut": "", "carry_stream": "", "carry_heights": ""},
    "normals": {"normal": ""},
    "bridges": {"is_bridge": "", "tied_of": "", "shows_tied": ""},
    "turns": {"turn": "", "same_net": "", "turns_between": "", "shows_turns": ""},
    "simplex": {"packing": "", "shows_packing": ""},
    "mixes": {"never_longer": "", "never_less": "", "shows_longer": "", "shows_less": ""},
    "keepers": {"Keeper": "__init__ web floor set_floor paper drop make_one put beside behind log __len__ undo trial tried"},
    "fixes": {"least_sure": "", "shows_least_sure": ""},
    "texts": {"write_values": "", "read_values": "", "write_tree": "", "read_tree": ""},
    "desk": {"Desk": "__init__ say __call__ run"},
    "errors": {name: "" for name in "WebError BadRatio NoRatio BadName BadWeb NoName NotTied NotPlain BadValue NoValue BadTree "
                                    "BadStream BadHeights NoTurn TooMany BadText Worse Barred NoLine".split()},
}


def nodes(kind):
    for stem, tree in TREES.items():
        for node in ast.walk(tree):
            if isinstance(node, kind):
                yield stem, node


def top_names(stem):
    """The names of a file: those that it defines, and those that it imports."""
    defined, imported = set(), set()
    for node in TREES[stem].body:
        if isinstance(node, (ast.FunctionDef, ast.ClassDef)):
            defined.add(node.name)
        elif isinstance(node, ast.Assign):
            defined.add(node.targets[0].id)
        elif isinstance(node, ast.ImportFrom):
            imported |= {alias.name for alias in node.names}
    return defined, imported


def imports_of(stem):
    return [node for node in TREES[stem].body if isinstance(node, ast.ImportFrom)]


class FileTest(unittest.TestCase):
    def test_sizes_and_characters(self):
        self.assertEqual([path.name for path in PACKAGE.iterdir() if path.suffix != ".py" and path.name != "__pycache__"], [])
        for path in FILES:
            text = path.read_text()
            self.assertTrue(re.fullmatch(r"[a-z0-9_]+\.py", path.name))
            self.assertEqual(set(text) - set(map(chr, range(32, 127))) - {"\n"}, set(), path)
            self.assertLess(len(text.splitlines()), 400, path)
            self.assertEqual([line for line in text.splitlines() if len(line) > 120], [])
        for stem, node in nodes(ast.FunctionDef):
            self.assertLessEqual(node.end_lineno - node.lineno + 1, 40, (stem, node.name))

    def test_statements_of_a_file(self):
        for stem, tree in TREES.items():
            for at, node in enumerate(tree.body):
                is_docstring = at == 0 and isinstance(node, ast.Expr)
                self.assertTrue(is_docstring or isinstance(
                    node, (ast.ImportFrom, ast.FunctionDef, ast.ClassDef, ast.Assign)), (stem, node.lineno))

    def test_imports(self):
        for stem, node in nodes((ast.Import, ast.ImportFrom)):
            self.assertIsInstance(node, ast.ImportFrom)
            self.assertEqual([alias.asname for alias in node.names], [None] * len(node.names))
            if node.module in LIBRARY:
                self.assertTrue({alias.name for alias in node.names} <= LIBRARY[node.module])
                continue
            package, _, source = node.module.partition(".")
            self.assertEqual(package, "sixasone")
            for alias in node.names:
                self.assertIn(alias.name, top_names(source)[0], (stem, alias.name))
                used = [name for name in ast.walk(TREES[stem]) if isinstance(name, ast.Name) and name.id == alias.name]
                self.assertTrue(used, (stem, alias.name))

    def test_no_circles(self):
        def check(stem, road):
            self.assertNotIn(stem, road)
            for node in imports_of(stem):
                if node.module.startswith("sixasone."):
                    check(node.module.partition(".")[2], road + [stem])

        for stem in TREES:
            check(stem, [])


class NameTest(unittest.TestCase):
    def test_bound_names(self):
        for stem, tree in TREES.items():
            classes = {node.name for node in tree.body if isinstance(node, ast.ClassDef)}
            taken = classes | top_names(stem)[1] | set(vars(builtins)) | UNUSED
            for node in ast.walk(tree):
                bound = []
                if isinstance(node, ast.FunctionDef):
                    arguments = node.args
                    bound = [each.arg for each in arguments.args + arguments.kwonlyargs]
                    bound += [each.arg for each in (arguments.vararg, arguments.kwarg) if each]
                elif isinstance(node, ast.Lambda):
                    bound = [each.arg for each in node.args.args]
                elif isinstance(node, ast.Name) and isinstance(node.ctx, ast.Store):
                    bound = [node.id]
                self.assertEqual(set(bound) & taken, set(), (stem, node))
            for name in top_names(stem)[0]:
                self.assertNotIn(name, vars(builtins))
                self.assertNotIn(name, UNUSED)

    def test_forms_of_names(self):
        for stem, node in nodes((ast.Name, ast.Attribute, ast.FunctionDef, ast.ClassDef, ast.arg)):
            name = {ast.Name: "id", ast.Attribute: "attr", ast.arg: "arg"}.get(type(node), "name")
            name = getattr(node, name)
            if name.startswith("__"):
                self.assertIn(name.strip("_"), DUNDERS, (stem, name))
            else:
                self.assertTrue(re.fullmatch(r"_|_?[A-Za-z][A-Za-z0-9_]*", name), name)
                self.assertFalse(re.match("_(wall|pe_|dcw_|enum_|cm_|twin_re_|lay_|law_|stub_|sre)", name), name)

    def test_builtins(self):
        for stem, node in nodes(ast.Name):
            if hasattr(builtins, node.id):
                self.assertIn(node.id, BUILTINS, (stem, node.lineno))

    def test_words(self):
        for path in FILES:
            self.assertIsNone(WORDS.search(path.read_text()), path)
        for stem, node in nodes(ast.Constant):
            if isinstance(node.value, str):
                self.assertNotIn("%", node.value)
            self.assertNotIsInstance(node.value, (float, complex, bytes))

    def test_methods(self):
        own = {node.name for _, node in nodes(ast.FunctionDef)}
        for stem, node in nodes(ast.Call):
            if isinstance(node.func, ast.Attribute):
                self.assertIn(node.func.attr, METHODS | own, (stem, node.lineno))

    def test_one_meaning_for_methods_and_attributes(self):
        attributes, methods, properties = set(), set(), set()
        for _, node in nodes(ast.Attribute):
            if isinstance(node.ctx, ast.Store):
                attributes.add(node.attr)
        for _, owner in nodes(ast.ClassDef):
            for node in owner.body:
                if isinstance(node, ast.FunctionDef):
                    marks = {getattr(mark, "id", "property") for mark in node.decorator_list}
                    (properties if "property" in marks else methods).add(node.name)
        self.assertEqual(methods & attributes, set())
        self.assertEqual(properties & attributes, {"rest", "floor"})
        self.assertEqual(properties & methods, set())


class ExpressionTest(unittest.TestCase):
    def test_what_is_left_out(self):
        barred = (ast.GeneratorExp, ast.Div, ast.Global, ast.AsyncFunctionDef, ast.Await, ast.AnnAssign,
                  ast.Set, ast.SetComp, ast.MatMult)
        self.assertEqual([(stem, node) for stem, node in nodes(barred)], [])

    def test_own_errors_are_caught(self):
        for stem, node in nodes(ast.Try):
            self.assertEqual(node.finalbody, [])
            for handler in node.handlers:
                self.assertIn(handler.type.id, top_names("errors")[0], (stem, node.lineno))

    def test_ends_of_blocks(self):
        # What stands in __exit__: attributes that are assigned attributes, perhaps below one test.
        for stem, node in nodes(ast.FunctionDef):
            if node.name == "__exit__":
                rows = node.body[0].body if isinstance(node.body[0], ast.If) else node.body
                for row in rows:
                    self.assertIsInstance(row, ast.Assign)
                    self.assertIsInstance(row.targets[0], ast.Attribute)
                    self.assertIsInstance(row.value, ast.Attribute)

    def test_sets_and_order(self):
        for stem, tree in TREES.items():
            within = {}
            for node in ast.walk(tree):
                for child in ast.iter_child_nodes(node):
                    within[child] = node
            for node in ast.walk(tree):
                if not isinstance(node, ast.Call) or not isinstance(node.func, ast.Name):
                    continue
                if node.func.id == "set":
                    around = within[node]
                    self.assertTrue(isinstance(around, ast.Call) and around.func.id in ("sorted", "len"), (stem, node.lineno))
                if node.func.id in ("sorted", "min", "max"):
                    self.assertTrue(self.is_plain(node), (stem, node.lineno))

    def is_plain(self, node):
        """Whether what is sorted is plainly numbers or strings, as L5 asks where a class compares."""
        for keyword in node.keywords:
            return keyword.arg == "key" and isinstance(keyword.value, ast.Name) and keyword.value.id in ("len", "str")
        first = node.args[0]
        if isinstance(first, ast.Call):
            return first.func.id == "set"
        return isinstance(first, ast.ListComp) and isinstance(first.elt, ast.Call) and first.elt.func.id in ("str", "len")

    def test_is(self):
        for stem, node in nodes(ast.Compare):
            if any(isinstance(sign, (ast.Is, ast.IsNot)) for sign in node.ops):
                self.assertTrue(isinstance(node.comparators[0], ast.Constant), (stem, node.lineno))
                self.assertIn(node.comparators[0].value, (None, True, False))

    def test_raised_errors(self):
        for stem, node in nodes(ast.Raise):
            self.assertTrue(isinstance(node.exc, ast.Call) and isinstance(node.exc.func, ast.Name), (stem, node.lineno))


class InterfaceTest(unittest.TestCase):
    def test_all_is_defined_where_it_is_listed(self):
        for stem, told in INTERFACE.items():
            for name, methods in told.items():
                self.assertIn(name, top_names(stem)[0], (stem, name))
                found = [node for node in TREES[stem].body if getattr(node, "name", None) == name]
                if name.isupper():
                    continue
                self.assertEqual(len(found), 1, (stem, name))
                body = {getattr(node, "name", None) for node in found[0].body}
                body |= {getattr(node.targets[0], "id", None) for node in found[0].body if isinstance(node, ast.Assign)}
                self.assertTrue(set(methods.split()) <= body, (stem, name, set(methods.split()) - body))


if __name__ == "__main__":
    unittest.main()
