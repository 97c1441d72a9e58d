"""The rules of the language subset that can be checked by reading the code of the package."""

import ast
import builtins
import importlib
import re
import unittest
from pathlib import Path

PACKAGE = Path(__file__).resolve().parent.parent / "takersrest"
FILES = sorted(PACKAGE.rglob("*.py"))

LIBRARY = {
    "heapq": set("heappush heappop heapify heapreplace heappushpop".split()),
    "math": set("gcd lcm isqrt comb perm factorial".split()),
    "itertools": set("product combinations permutations chain accumulate pairwise islice zip_longest".split()),
    "collections": {"defaultdict", "deque"},
}
BUILTINS = set((
    "len range enumerate zip min max sum abs sorted reversed int str bool bytes list tuple dict set frozenset"
    " isinstance ord repr any all divmod map iter next"
    " Exception ValueError TypeError KeyError IndexError LookupError ZeroDivisionError ArithmeticError"
    " OverflowError RuntimeError NotImplementedError AttributeError StopIteration NotImplemented property"
).split())
METHODS = set((
    "append clear copy count endswith extend find get index insert isalnum isalpha isdigit islower isspace isupper"
    " items join keys ljust lower lstrip partition pop remove replace reverse rfind rjust rpartition rsplit rstrip"
    " setdefault split splitlines startswith strip update upper values zfill bit_length add discard sort"
).split())
BARRED = set((
    "register mro elements open input law version_info with_traceback add_note attrgetter breakpoint builtins"
    " compile copyright credits delattr dir eval exec exit gc globals help id importlib license locals"
    " methodcaller os quit type vars sys typing enum Enum dataclass namedtuple"
).split())
AT_ONCE = set("list tuple dict sorted sum any all enumerate zip min max".split())
VIEWS = {"items", "keys", "values"}

# The functions of the interface, with their arguments.
INTERFACE = {
    "offers": (
        "make_offer(size, lots)", "is_free(offer, things)", "rank(offer, things)", "cut(offer, count)",
        "opposite(offer)", "first_fault(offer)", "is_smooth(offer)",
    ),
    "builders": (
        "choose(size, count)", "parts(groups)", "beside(first, second)", "renamed(offer, names, size)",
        "trees(points, roads)", "ways(points, roads, start, end)", "pairings(points, roads)",
    ),
    "sources": ("columns(rows, size)", "seats(size, groups)"),
    "smaller": ("circuits(offer)", "span(offer, things)", "without(offer, thing)", "holding(offer, thing)"),
    "circuits": (
        "from_circuits(size, barred)", "circuit_fault(offer)", "pieces(offer)", "piece_offer(offer, things)",
    ),
    "lines": ("way_lines(points, roads, start, end)", "pair_mates(points, roads)"),
    "pricing": (
        "price(things, prices)", "cheapest(offer, prices)", "best_exchange(offer, lot, prices)",
        "greedy_lot(offer, prices)", "trap(offer)",
    ),
    "swaps": (
        "swap(offer, first, second, thing)", "partners_of(offer, first, second)", "cheapest_offer(offer, prices)",
        "together(first, second)", "spare(first, second)",
    ),
    "costs": ("make_costs(rows, room)", "straight_costs(rates, room)"),
    "games": (
        "make_game(takers)", "loads(game, choice)", "pay(game, choice, taker)", "own_prices(game, choice, taker)",
        "best_lot(game, choice, taker)", "gain(game, choice, taker)", "first_gain(game, choice)",
        "single_gain(game, choice)", "is_rest(game, choice)", "choices(game)", "rests(game)",
    ),
    "growth": ("replay(game, log)", "grow(game)"),
    "clashes": (
        "tight(offer)", "judge_tight(offer, paper)", "clash(offer)", "heavy_clash(offer)",
        "judge_clash(offer, game, names)", "judge_heavy_clash(offer, game, names)",
    ),
    "heavy": (
        "make_heavy(costs, takers)", "heavy_loads(game, choice)", "heavy_pay(game, choice, taker)",
        "heavy_prices(game, choice, taker)", "heavy_best_lot(game, choice, taker)",
        "heavy_gain(game, choice, taker)", "heavy_first_gain(game, choice)", "heavy_is_rest(game, choice)",
        "heavy_choices(game)", "heavy_rests(game)", "cost_row(game, choice)", "heavy_settle(game, choice)",
    ),
    "alike": (
        "are_alike(game)", "crowd_sum(game, choice)", "settle(game, choice)", "tolled(costs)",
        "total(game, choice)", "least_total(game)", "dear_game()",
    ),
    "posted": (
        "better_choice(game, choice)", "best_choice(game)", "posted_prices(game, choice)",
        "judge_posted(game, choice, prices)",
    ),
    "apart": ("apart(offers, limit)", "bar(offers, limit)"),
    "rings": ("round_game()", "is_ring(game, ring)", "joint_gain(game, choice)"),
    "writing": ("write_game(game)", "write_log(log)"),
    "reading": ("read_game(text)", "read_log(text)"),
}

# The classes of the interface, with the arguments of their methods behind self.
CLASSES = {
    "hall.Hall": (
        "__init__(size, room)", "enter(offer, costs)", "leave(number)", "change(number, costs)", "undo()", "places()",
        "game()", "loads()",
    ),
    "market.Market": (
        "__init__(costs, room)", "enter(offer)", "leave(number)", "undo()", "places()", "game()", "prices()", "loads()",
        "crowd()",
    ),
    "deal.Deal": (
        "__init__(size, limit)", "enter(offer)", "leave(number)", "undo()", "places()", "free_places()",
    ),
}
PROPERTIES = {"hall.Hall": ("exchanges",)}


def parsed(path):
    tree = ast.parse(path.read_text("ascii"))
    for node in ast.walk(tree):
        for child in ast.iter_child_nodes(node):
            child.parent = node
    return tree


TREES = {path.name: parsed(path) for path in FILES}


def nodes(*kinds):
    for name, tree in TREES.items():
        for node in ast.walk(tree):
            if isinstance(node, kinds):
                yield f"{name}:{getattr(node, 'lineno', 0)}", node


def bound_names(tree):
    """All names of parameters, variables, functions and classes that the tree binds."""
    found = []
    for node in ast.walk(tree):
        if isinstance(node, ast.Name) and isinstance(node.ctx, ast.Store):
            found.append(node.id)
        elif isinstance(node, ast.arg):
            found.append(node.arg)
        elif isinstance(node, (ast.FunctionDef, ast.ClassDef)):
            found.append(node.name)
    return found


def called_name(node):
    return node.func.id if isinstance(node, ast.Call) and isinstance(node.func, ast.Name) else None


def arguments(function):
    code = function.__code__
    return code.co_varnames[:code.co_argcount]


class Form(unittest.TestCase):
    def test_files_and_lines(self):
        for path in PACKAGE.iterdir():
            self.assertTrue(path.name == "__pycache__" or re.fullmatch(r"[a-z0-9_]+\.py", path.name), path)
        for path in FILES:
            lines = path.read_text("ascii").split("\n")
            self.assertLessEqual(len(lines), 399, path)
            for at, line in enumerate(lines):
                self.assertRegex(line, r"^[ -~]{0,120}$", f"{path}:{at + 1}")
                self.assertEqual(line, line.rstrip(), f"{path}:{at + 1}")

    def test_functions_are_small(self):
        for place, node in nodes(ast.FunctionDef):
            self.assertLessEqual(node.end_lineno - node.lineno + 1, 40, place)

    def test_module_level(self):
        for name, tree in TREES.items():
            bound = []
            for at, node in enumerate(tree.body):
                if isinstance(node, ast.Expr):
                    self.assertTrue(at == 0 and isinstance(node.value, ast.Constant), name)
                elif isinstance(node, ast.ImportFrom):
                    bound.extend(alias.name for alias in node.names)
                elif isinstance(node, ast.Assign):
                    bound.append(node.targets[0].id)
                else:
                    self.assertIsInstance(node, (ast.FunctionDef, ast.ClassDef), name)
                    bound.append(node.name)
            self.assertEqual(sorted(bound), sorted(set(bound)), name)

    def test_imports(self):
        for place, node in nodes(ast.ImportFrom):
            self.assertEqual(node.level, 0, place)
            top, _, rest = node.module.partition(".")
            for alias in node.names:
                self.assertIsNone(alias.asname, place)
                if top == "takersrest":
                    defined = [n.name for n in TREES[rest + ".py"].body if hasattr(n, "name")]
                    self.assertIn(alias.name, defined, place)
                else:
                    self.assertIn(alias.name, LIBRARY.get(node.module, ()), place)

    def test_imports_do_not_go_round(self):
        needs = {name: set() for name in TREES}
        for place, node in nodes(ast.ImportFrom):
            if node.module.startswith("takersrest."):
                needs[place.partition(":")[0]].add(node.module.partition(".")[2] + ".py")
        while needs:
            ready = [name for name, wanted in needs.items() if not wanted & set(needs)]
            self.assertNotEqual(ready, [], needs)
            for name in ready:
                del needs[name]

    def test_imports_are_used(self):
        for name, tree in TREES.items():
            used = {node.id for node in ast.walk(tree) if isinstance(node, ast.Name)}
            for node in tree.body:
                if isinstance(node, ast.ImportFrom):
                    for alias in node.names:
                        self.assertIn(alias.name, used, name)

    def test_kinds_of_steps(self):
        barred = (
            ast.AsyncFunctionDef, ast.AsyncFor, ast.AsyncWith, ast.Await, ast.Import, ast.Div, ast.MatMult,
            ast.Pow, ast.Global, ast.YieldFrom, ast.Yield, ast.AnnAssign,
        )
        for place, node in nodes(*barred):
            self.fail(f"{place}: {node}")
        for place, node in nodes(ast.Constant):
            self.assertNotIsInstance(node.value, (float, complex), place)
            if isinstance(node.value, str):
                self.assertNotIn("%", node.value, place)
        for place, node in nodes(ast.FunctionDef, ast.ClassDef):
            decorators = [decorator.id for decorator in node.decorator_list]
            in_class = isinstance(node.parent, ast.ClassDef)
            self.assertIn(decorators, ([], ["property"]) if in_class else ([],), place)

    def test_properties_only_read(self):
        for place, node in nodes(ast.FunctionDef):
            if node.decorator_list:
                self.assertEqual([type(step) for step in node.body], [ast.Expr, ast.Return], place)
                self.assertEqual([part for part in ast.walk(node.body[1]) if isinstance(part, ast.Call)], [], place)

    def test_names_of_methods_are_no_attributes(self):
        methods = {n.name for _, kind in nodes(ast.ClassDef) for n in kind.body if isinstance(n, ast.FunctionDef)}
        for place, node in nodes(ast.Attribute):
            if isinstance(node.ctx, ast.Store):
                self.assertNotIn(node.attr, methods, place)

    def test_names(self):
        everything = set(dir(builtins))
        for name, tree in TREES.items():
            imported = {a.name for n in tree.body if isinstance(n, ast.ImportFrom) for a in n.names}
            classes = {n.name for n in tree.body if isinstance(n, ast.ClassDef)}
            inner = [bound for n in tree.body if isinstance(n, (ast.FunctionDef, ast.ClassDef))
                     for part in ast.iter_child_nodes(n) for bound in bound_names(part)]
            self.assertEqual(sorted((imported | classes) & set(inner)), [], name)
            top = {n.name for n in tree.body if isinstance(n, ast.FunctionDef)}
            self.assertEqual(sorted(top & set(inner)), [], name)
            for bound in bound_names(tree):
                self.assertNotIn(bound, everything | BARRED, name)
                self.assertRegex(bound, r"^(_|_?[A-Za-z][A-Za-z0-9_]*|__init__)$", name)

    def test_builtins_and_methods(self):
        own = {node.name for _, node in nodes(ast.FunctionDef)}
        for place, node in nodes(ast.Name):
            if isinstance(node.ctx, ast.Load) and hasattr(builtins, node.id):
                self.assertIn(node.id, BUILTINS, place)
        for place, node in nodes(ast.Call):
            if isinstance(node.func, ast.Attribute) and node.func.attr != "__init__":
                self.assertIn(node.func.attr, METHODS | own, place)

    def test_sets_stand_where_they_may(self):
        for place, node in nodes(ast.Call, ast.SetComp, ast.Set):
            if isinstance(node, ast.Call) and called_name(node) != "set":
                continue
            parent = node.parent
            while isinstance(parent, ast.BinOp):
                parent = parent.parent
            fits = (
                called_name(parent) in ("sorted", "len")
                or isinstance(parent, ast.Compare)
                or isinstance(parent, ast.Assign) and isinstance(parent.targets[0], ast.Name)
            )
            self.assertTrue(fits, place)

    def test_views_are_iterated_at_once(self):
        for place, node in nodes(ast.Call):
            is_view = isinstance(node.func, ast.Attribute) and node.func.attr in VIEWS
            if not is_view and called_name(node) not in ("range", "zip", "enumerate", "reversed"):
                continue
            parent = node.parent
            fits = (
                isinstance(parent, (ast.For, ast.comprehension)) and parent.iter is node
                or called_name(parent) in AT_ONCE
                or isinstance(parent, ast.Compare)
            )
            self.assertTrue(fits, place)

    def test_is_stands_beside_none_true_and_false(self):
        for place, node in nodes(ast.Compare):
            for sign, right in zip(node.ops, node.comparators):
                if isinstance(sign, (ast.Is, ast.IsNot)):
                    self.assertTrue(isinstance(right, ast.Constant) and right.value in (None, True, False), place)


class Interface(unittest.TestCase):
    def test_each_function_stands_in_its_file(self):
        for name, signatures in INTERFACE.items():
            module = importlib.import_module("takersrest." + name)
            for signature in signatures:
                with self.subTest(signature=signature):
                    called, _, rest = signature.partition("(")
                    function = getattr(module, called)
                    self.assertEqual(function.__module__, "takersrest." + name)
                    self.assertEqual(", ".join(arguments(function)) + ")", rest)

    def test_each_method_stands_in_its_class(self):
        for name, signatures in CLASSES.items():
            file, _, called = name.partition(".")
            kind = getattr(importlib.import_module("takersrest." + file), called)
            self.assertEqual(kind.__module__, "takersrest." + file)
            for signature in signatures:
                with self.subTest(name=name, signature=signature):
                    method, _, rest = signature.partition("(")
                    self.assertEqual(", ".join(arguments(vars(kind)[method])[1:]) + ")", rest)
            for known in PROPERTIES.get(name, ()):
                self.assertIsInstance(vars(kind)[known], property)


if __name__ == "__main__":
    unittest.main()
