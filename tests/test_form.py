"""The rules of the form that the program is written in, as far as the code shows whether they are kept."""

import ast
import builtins
import pathlib
import re
import unittest

FOLDER = pathlib.Path(__file__).resolve().parent.parent / "ringcubes"
FILES = sorted(FOLDER.glob("*.py"))
TREES = {path.stem: ast.parse(path.read_text("ascii")) for path in FILES}

INTERFACE = {
    "drawings": "Drawing ways way_count linking pieces", "faces": "faces shades",
    "views": "mirrored turned_about way_turned renamed in_order alike",
    "moves": "kinked ring_kinked unkinked laid_over pulled_off slid", "braids": "closed_braid",
    "rings": "smoothed edge", "cube": "states step_rows", "rooms": "rooms whole_rooms rooms_of",
    "older": "older_row widest",
    "maps": "is_map plain_map composed summed is_bridge is_paper paper_back papers_joined",
    "dots": "dotted dots_bridge", "papers": "move_paper row_paper", "alikes": "alike_paper",
    "longs": "long_rooms long_whole",
    "makings": "side_by_side joined_at rooms_product whole_product mirrored_whole",
    "partings": "parted exchanged ring_ranks",
    "alternates": "is_alternate idle_crossings alternated", "webs": "web_rows woven",
    "shadeforms": "shade_form form_sign signature determinant", "webtrees": "trees tree_spot tree_spots",
    "twolines": "halved_row told_by_trees", "rules": "rule_step rule_kind", "spreads": "spread",
    "leftovers": "rule_left", "ownsums": "own_choice own_hues own_sum s_number", "ringbounds": "ring_bounds",
    "fades": "fades longest_fade rooms_by_fades exchange_bound", "ruleways": "moved_rule scaled_rule rule_way",
    "matchings": "matchings sheets", "surfaces": "put_behind", "patches": "Patch patch_of drawing_of",
    "chains": "Chain chain_of", "joins": "patch_beside patch_turned patch_tied patch_mirrored",
    "leasts": "least_numbers is_least", "leastpapers": "is_least_paper least_paper", "between": "maps_between",
    "gluing": "chain_beside chain_turned chain_mirrored chain_tied patch_numbers rooms_glued", "twists": "twist_row",
    "odd": "square_kind odd_signs odd_step_rows", "oddrooms": "odd_rooms odd_whole_rooms",
    "oddlong": "long_odd_rooms long_odd_whole",
    "films": "is_event event_done film_end film_number film_weight film_back", "filmmaps": "film_map closed_number",
    "filmtables": "film_table", "filmranks": "film_ranks dot_ranks", "live": "started is_deed LiveDrawing",
    "drawtexts": "drawing_text drawing_of_text", "deedtexts": "start_text start_of_text deed_text deed_of_text",
    "journals": "journal_text led_live", "desk": "Desk"}
OUTSIDE = {"heapq": "heappush heappop", "math": "gcd comb lcm isqrt", "itertools": "product combinations permutations"}
BUILTINS = ("len range enumerate zip min max sum abs sorted reversed int str bool list tuple dict set isinstance ord "
            "repr any all divmod ValueError").split()
METHODS = ("append clear copy count endswith extend find get index insert isalnum isalpha isdigit islower isspace "
           "isupper items join keys ljust lower lstrip partition pop remove replace reverse rfind rjust rpartition "
           "rsplit rstrip setdefault split splitlines startswith strip update upper values zfill bit_length "
           "add discard").split()
NOT_ATTRIBUTES = ("items keys values pop update append clear extend insert remove reverse setdefault sort args encode "
                  "decode hex fromhex format").split()
BARRED = ("register mro elements open input law version_info with_traceback add_note attrgetter breakpoint builtins "
          "compile copyright credits delattr dir eval exec exit gc getattr globals hasattr help id importlib license "
          "locals methodcaller os quit setattr super type vars sys").split()
WORDS = ("typing typing_extensions enum Enum IntEnum StrEnum Flag IntFlag Generic Protocol ABC ABCMeta namedtuple "
         "NamedTuple TypedDict TYPE_CHECKING abstractmethod _wall _WallAttr type").split()
NODES = (ast.Yield, ast.YieldFrom, ast.Global, ast.Nonlocal, ast.AsyncFunctionDef, ast.Await, ast.Starred, ast.JoinedStr,
         ast.Match, ast.With, ast.Lambda, ast.NamedExpr, ast.GeneratorExp, ast.Div, ast.Pow)


def functions(tree):
    """All functions and methods of a file."""
    return [node for node in ast.walk(tree) if isinstance(node, ast.FunctionDef)]


def stored_names(node):
    """All names that are assigned within a node, parameters included."""
    names = [part.id for part in ast.walk(node) if isinstance(part, ast.Name) and isinstance(part.ctx, ast.Store)]
    return names + [part.arg for part in ast.walk(node) if isinstance(part, ast.arg)]


def imported(tree):
    """The pairs (module, name) that a file imports."""
    return [(node.module, name.name) for node in tree.body if isinstance(node, ast.ImportFrom) for name in node.names]


def top_names(tree):
    """The names bound at module level, imports left out."""
    names = [node.name for node in tree.body if isinstance(node, (ast.FunctionDef, ast.ClassDef))]
    return names + [target.id for node in tree.body if isinstance(node, ast.Assign) for target in node.targets]


class FormTest(unittest.TestCase):
    def each(self, kind):
        for name, tree in TREES.items():
            for node in ast.walk(tree):
                if isinstance(node, kind):
                    yield name, node

    def test_files(self):
        self.assertLessEqual(len(FILES), 100)
        for path in FOLDER.iterdir():
            if path.name != "__pycache__":
                self.assertRegex(path.name, r"^[a-z0-9_]+\.py$")
                self.assertNotIn(path.stem, dir(builtins) + BARRED + ["test", "tests", "testing", "site", "math"])
        for path in FILES:
            text = path.read_text("ascii")
            lines = text.splitlines()
            self.assertLessEqual(len(lines), 399, path.name)
            self.assertLessEqual(max(map(len, lines)), 120, path.name)
            self.assertTrue(all(sign == "\n" or " " <= sign <= "~" for sign in text), path.name)

    def test_sizes_of_functions(self):
        for name, node in self.each(ast.FunctionDef):
            self.assertLessEqual(node.end_lineno - node.lineno + 1, 40, (name, node.name))

    def test_interface(self):
        for name, told in INTERFACE.items():
            own = [node.name for node in TREES[name].body if isinstance(node, (ast.FunctionDef, ast.ClassDef))]
            for word in told.split():
                self.assertIn(word, own, name)

    def test_module_level(self):
        for name, tree in TREES.items():
            for at, node in enumerate(tree.body):
                kinds = (ast.ImportFrom, ast.FunctionDef, ast.ClassDef, ast.Assign)
                docstring = at == 0 and isinstance(node, ast.Expr)
                self.assertTrue(docstring or isinstance(node, kinds), (name, node.lineno))
                if isinstance(node, ast.Assign):
                    ast.literal_eval(node.value)
                    self.assertEqual(len(node.targets), 1)
            names = top_names(tree) + [word for _, word in imported(tree)]
            self.assertEqual(len(names), len(set(names)), name)
        self.assertEqual(len(TREES["__init__"].body), 1)

    def test_imports(self):
        for name, tree in TREES.items():
            self.assertFalse([node for node in ast.walk(tree) if isinstance(node, ast.Import)])
            self.assertEqual(len([node for node in ast.walk(tree) if isinstance(node, ast.ImportFrom)]),
                             len([node for node in tree.body if isinstance(node, ast.ImportFrom)]))
            modules = [node.module for node in tree.body if isinstance(node, ast.ImportFrom)]
            self.assertEqual(len(modules), len(set(modules)), name)
            for module, word in imported(tree):
                if module in OUTSIDE:
                    self.assertIn(word, OUTSIDE[module].split())
                else:
                    self.assertEqual(module.split(".")[0], "ringcubes")
                    self.assertIn(word, top_names(TREES[module.split(".")[1]]), (name, word))

    def test_what_is_imported_is_used(self):
        for name, tree in TREES.items():
            used = {node.id for node in ast.walk(tree) if isinstance(node, ast.Name)}
            for _, word in imported(tree):
                self.assertIn(word, used, name)

    def test_no_ring_of_imports(self):
        rest = {name: {module.split(".")[1] for module, _ in imported(tree) if module not in OUTSIDE}
                for name, tree in TREES.items()}
        while rest:
            free = [name for name in rest if not rest[name] & set(rest)]
            self.assertTrue(free, rest)
            for name in free:
                del rest[name]

    def test_names(self):
        for name, tree in TREES.items():
            taken = [word for _, word in imported(tree)]
            taken += [node.name for node in tree.body if isinstance(node, ast.ClassDef)]
            for node in functions(tree):
                for word in stored_names(node):
                    self.assertNotIn(word, taken, (name, node.name))
            for word in stored_names(tree) + top_names(tree) + [node.name for node in functions(tree)]:
                self.assertNotIn(word, BARRED, name)
                if not (word.startswith("__") and word.endswith("__")):
                    self.assertRegex(word, r"^(_|_?[A-Za-z][A-Za-z0-9_]*)$")
                    self.assertNotIn(word, dir(builtins), name)
                self.assertFalse(re.match(r"_wall|_pe_|_dcw_|_enum_|_cm_|_twin_re_|_lay_|_law_|_stub_|_sre", word))

    def test_no_function_hides_one_of_its_file(self):
        for name, tree in TREES.items():
            own = top_names(tree)
            for node in functions(tree):
                for word in stored_names(node):
                    self.assertNotIn(word, own, (name, node.name))

    def test_statements_and_expressions(self):
        for name, node in self.each(NODES):
            self.fail((name, node.lineno, type(node).__name__))
        for name, node in self.each(ast.Constant):
            self.assertNotIsInstance(node.value, (float, complex, bytes))
            if isinstance(node.value, str):
                self.assertNotIn("%", node.value)
                self.assertNotIn("_.", node.value)
        for name, node in self.each((ast.FunctionDef, ast.ClassDef)):
            self.assertFalse(node.decorator_list)
        for name, node in self.each(ast.Compare):
            for sign, side in zip(node.ops, node.comparators):
                if isinstance(sign, (ast.Is, ast.IsNot)):
                    self.assertIsInstance(side, ast.Constant, (name, node.lineno))

    def test_handlers(self):
        own = {node.name for node in TREES["errors"].body if isinstance(node, ast.ClassDef)}
        for name, node in self.each(ast.Try):
            self.assertFalse(node.finalbody or node.orelse, (name, node.lineno))
            self.assertEqual(len(node.handlers), 1)
            handler = node.handlers[0]
            self.assertIn(handler.type.id, own, (name, node.lineno))
            self.assertIsNone(handler.name)
        for name, node in self.each(ast.Raise):
            self.assertIn(node.exc.func.id, own, (name, node.lineno))
            self.assertTrue(node.cause is None or node.cause.value is None)

    def test_words(self):
        for path in FILES:
            code = re.sub(r'"""[\s\S]*?"""|#.*', "", path.read_text("ascii"))
            for word in WORDS:
                self.assertIsNone(re.search(r"\b" + word + r"\b", code), (path.name, word))
            self.assertIsNone(re.search("dataclass|overload|contextmanager", code))

    def test_builtins(self):
        for name, tree in TREES.items():
            known = set(top_names(tree)) | {word for _, word in imported(tree)}
            for node in functions(tree):
                known |= set(stored_names(node))
            for node in ast.walk(tree):
                if isinstance(node, ast.Name) and node.id not in known:
                    self.assertIn(node.id, BUILTINS, (name, node.lineno))

    def test_calls(self):
        own = {node.name for tree in TREES.values() for node in functions(tree)}
        for name, node in self.each(ast.Call):
            if isinstance(node.func, ast.Attribute):
                self.assertIn(node.func.attr, own | set(METHODS), (name, node.lineno))
            for word in node.keywords:
                self.assertIsNotNone(word.arg)
        for name, node in self.each(ast.Assign):
            if isinstance(node.value, ast.Call):
                called = node.value.func
                word = called.id if isinstance(called, ast.Name) else called.attr
                self.assertNotIn(word, ("zip", "enumerate", "reversed", "range", "items", "keys", "values"),
                                 (name, node.lineno))

    def test_attributes(self):
        stored = {}
        for name, node in self.each(ast.Attribute):
            if isinstance(node.ctx, ast.Store):
                stored[node.attr] = True
                self.assertEqual(node.value.id, "self", (name, node.lineno))
        methods = {node.name for tree in TREES.values() for kind in ast.walk(tree) if isinstance(kind, ast.ClassDef)
                   for node in functions(kind)}
        for name, node in self.each(ast.Attribute):
            self.assertIn(node.attr, set(stored) | methods | set(METHODS), (name, node.lineno))
        for word in stored:
            self.assertNotIn(word, NOT_ATTRIBUTES)
            self.assertNotIn(word, methods)

    def test_sets(self):
        for name, tree in TREES.items():
            for node in functions(tree):
                self.check_sets(name, node)

    def check_sets(self, name, function):
        kept = [node.targets[0].id for node in ast.walk(function)
                if isinstance(node, ast.Assign) and is_set(node.value)]
        self.assertEqual(len(kept), len(set(kept)), (name, function.name))
        allowed = []
        for node in ast.walk(function):
            if isinstance(node, ast.Compare) and isinstance(node.ops[0], (ast.In, ast.NotIn)):
                allowed.append(node.comparators[0])
            if isinstance(node, ast.Call) and isinstance(node.func, ast.Attribute) and node.func.attr == "add":
                allowed.append(node.func.value)
            if isinstance(node, ast.Call) and isinstance(node.func, ast.Name) and node.func.id in ("len", "sorted"):
                allowed.append(node.args[0])
            if isinstance(node, ast.Assign):
                allowed.extend(node.targets + [node.value])
        for node in ast.walk(function):
            if is_set(node) or isinstance(node, ast.Name) and node.id in kept:
                self.assertTrue(any(node is place for place in allowed), (name, function.name, node.lineno))

    def test_loops_leave_alone_what_they_go_over(self):
        for name, node in self.each(ast.For):
            if isinstance(node.iter, ast.Name):
                for part in ast.walk(node):
                    if isinstance(part, ast.Call) and isinstance(part.func, ast.Attribute):
                        if part.func.attr in ("append", "extend", "pop", "insert", "remove", "update", "setdefault"):
                            self.assertNotEqual(getattr(part.func.value, "id", None), node.iter.id,
                                                (name, node.lineno))


def is_set(node):
    """Whether a node makes a set."""
    if isinstance(node, (ast.Set, ast.SetComp)):
        return True
    return isinstance(node, ast.Call) and isinstance(node.func, ast.Name) and node.func.id == "set"


if __name__ == "__main__":
    unittest.main()
