"""Looks through the package for what ../shared/LANGUAGE.md bars, as far as the syntax tree shows it.

It prints each finding with its rule and line, and exits with 1 if there is one.
"""

import ast
import builtins
import pathlib
import re
import sys

ROOT = pathlib.Path(__file__).resolve().parent.parent
PACKAGE = "steadymixes"
LIBRARY = {
    "heapq": "heappush heappop heapify heapreplace heappushpop".split(),
    "math": "gcd lcm isqrt comb perm factorial".split(),
    "itertools": "product combinations permutations chain accumulate pairwise islice zip_longest".split(),
    "collections": "defaultdict deque".split(),
}
BUILTINS = set("""len range enumerate zip min max sum abs sorted reversed int str bool bytes list tuple dict set
    frozenset isinstance ord chr repr any all divmod pow getattr hasattr setattr iter next map type super property
    staticmethod classmethod Exception ValueError TypeError KeyError IndexError LookupError ZeroDivisionError
    ArithmeticError OverflowError RuntimeError NotImplementedError AttributeError StopIteration
    NotImplemented""".split())
FREE_LOCALS = set("object id format credits license copyright quit callable complex ascii oct memoryview".split())
METHODS = set("""append clear copy count endswith extend find get index insert isalnum isalpha isdigit islower
    isspace isupper items join keys ljust lower lstrip partition pop remove replace reverse rfind rjust rpartition
    rsplit rstrip setdefault split splitlines startswith strip update upper values zfill bit_length sort add
    discard""".split())
BARRED_NAMES = set("mro elements open input law version_info with_traceback add_note os sys gc id vars".split())
BARRED_WORDS = re.compile(r"\b(typing|enum|Enum|Generic|Protocol|ABC|namedtuple|NamedTuple|TypedDict)\b|dataclass")
BARRED_NODES = (ast.AsyncFunctionDef, ast.AsyncFor, ast.AsyncWith, ast.Await, ast.Global, ast.Div, ast.MatMult,
                ast.Import, ast.TryStar)


class File:
    def __init__(self, path):
        self.path = path
        self.text = path.read_text(encoding="utf-8")
        self.tree = ast.parse(self.text)
        self.parents = {}
        for node in ast.walk(self.tree):
            for child in ast.iter_child_nodes(node):
                self.parents[child] = node
        self.defined = {node.name for node in self.tree.body if isinstance(node, (ast.FunctionDef, ast.ClassDef))}
        for node in self.tree.body:
            if isinstance(node, ast.Assign):
                self.defined |= {target.id for target in node.targets if isinstance(target, ast.Name)}
        self.classes = {node.name for node in ast.walk(self.tree) if isinstance(node, ast.ClassDef)}
        self.imports = {alias.name: node for node in ast.walk(self.tree) if isinstance(node, ast.ImportFrom)
                        for alias in node.names}


def sizes(file):
    lines = file.text.split("\n")
    if len(lines) > 400:
        yield 1, "L10 file too long"
    for at, line in enumerate(lines, 1):
        if len(line) > 120 or "\t" in line:
            yield at, "L10 line too long, or a tab"
        if any(not " " <= sign <= "~" for sign in line):
            yield at, "L14 character"
        if BARRED_WORDS.search(line):
            yield at, "L17 word"
    for node in ast.walk(file.tree):
        if isinstance(node, ast.FunctionDef) and node.end_lineno - node.lineno >= 40:
            yield node.lineno, "L10 function too long"


def imports(file, files):
    for name, node in file.imports.items():
        place = node.module or ""
        alias = [part for part in node.names if part.name == name][0]
        if node.level or alias.asname or name == "*" or node not in file.tree.body:
            yield node.lineno, "L2 form of import"
        elif place in LIBRARY:
            if name not in LIBRARY[place]:
                yield node.lineno, "L2 library"
        elif place not in files or name not in files[place].defined:
            yield node.lineno, f"L16 {name} is not defined in {place}"
        uses = [part for part in ast.walk(file.tree) if isinstance(part, ast.Name) and part.id == name]
        if not uses:
            yield node.lineno, f"{name} is imported and not used"


def bound_names(node):
    if isinstance(node, ast.Name) and not isinstance(node.ctx, ast.Load):
        return [node.id]
    if isinstance(node, ast.arg):
        return [node.arg]
    if isinstance(node, (ast.FunctionDef, ast.ClassDef)):
        return [node.name]
    return []


def names(file):
    for node in ast.walk(file.tree):
        line = getattr(node, "lineno", 0)
        method = isinstance(node, ast.FunctionDef) and isinstance(file.parents[node], ast.ClassDef)
        for name in [] if method else bound_names(node):
            if name in BARRED_NAMES or hasattr(builtins, name) and name not in FREE_LOCALS:
                yield line, f"L15 or L17 name {name}"
            if name in file.imports or name in file.classes and not isinstance(node, ast.ClassDef):
                yield line, f"L15 {name} is an import or a class"
        if isinstance(node, ast.Name) and isinstance(node.ctx, ast.Load):
            if node.id == "_":
                yield line, "L12 _ is read"
            if hasattr(builtins, node.id) and node.id not in BUILTINS:
                yield line, f"L8 builtin {node.id}"


def is_type_call(node):
    return isinstance(node, ast.Call) and isinstance(node.func, ast.Name) and node.func.id == "type"


def is_set(node):
    called = isinstance(node, ast.Call) and isinstance(node.func, ast.Name) and node.func.id in ("set", "frozenset")
    return called or isinstance(node, (ast.Set, ast.SetComp))


def set_place_fits(file, node):
    parent = file.parents[node]
    if isinstance(parent, ast.Compare):
        return True
    return isinstance(parent, ast.Call) and getattr(parent.func, "id", "") in ("len", "sorted")


def nodes(file, methods):
    for node in ast.walk(file.tree):
        line = getattr(node, "lineno", 0)
        if isinstance(node, BARRED_NODES):
            yield line, f"L6 or L7 {type(node).__name__}"
        if isinstance(node, ast.Constant) and isinstance(node.value, (float, complex)):
            yield line, "L7 float"
        if isinstance(node, ast.Constant) and isinstance(node.value, str) and "%" in node.value:
            yield line, "L27 sign"
        for told in getattr(node, "decorator_list", []):
            in_class = isinstance(file.parents[node], ast.ClassDef)
            if not in_class or not isinstance(told, ast.Name) or told.id != "property":
                yield line, "L4 decorator: look whether L5 allows it"
        if isinstance(node, ast.GeneratorExp):
            yield line, "L7 generator expression beside a class with __eq__"
        if isinstance(node, ast.Compare) and any(isinstance(sign, (ast.Is, ast.IsNot)) for sign in node.ops):
            told = node.comparators[0]
            plain = isinstance(told, ast.Constant) and told.value in (None, True, False)
            if not plain and not is_type_call(node.left):
                yield line, "L20 is"
        if is_type_call(node) and not isinstance(file.parents[node], ast.Compare):
            yield line, "L8 type(..)"
        if is_set(node) and not set_place_fits(file, node):
            yield line, "L24 set: look whether it is a stored set"
        if isinstance(node, ast.Call) and isinstance(node.func, ast.Attribute):
            if node.func.attr not in METHODS | methods:
                yield line, f"L25 method {node.func.attr}"
        if isinstance(node, ast.Starred) and not isinstance(node.value, (ast.Name, ast.Attribute)):
            yield line, "L7 star"


def circles(files):
    told = {name: {node.module for node in file.imports.values()} & set(files) for name, file in files.items()}
    while True:
        ends = [name for name, needed in told.items() if not needed]
        if not ends:
            return sorted(told)
        told = {name: needed - set(ends) for name, needed in told.items() if name not in ends}


def main():
    files = {}
    found = []
    for path in sorted((ROOT / PACKAGE).rglob("*")):
        if "__pycache__" in path.parts or path.is_dir():
            continue
        if not re.fullmatch(r"[a-z0-9_]+\.py", path.name):
            found.append(f"{path}: L1 or L14 file name")
            continue
        parts = path.relative_to(ROOT).with_suffix("").parts
        files[".".join(part for part in parts if part != "__init__")] = File(path)
    methods = {node.name for file in files.values() for part in ast.walk(file.tree) if isinstance(part, ast.ClassDef)
               for node in part.body if isinstance(node, ast.FunctionDef)}
    for file in files.values():
        for findings in (sizes(file), imports(file, files), names(file), nodes(file, methods)):
            found += [f"{file.path}:{line}: {what}" for line, what in findings]
    found += [f"{name}: L16 imports in a circle" for name in circles(files)]
    print("\n".join(found) if found else f"language: {len(files)} files, nothing found")
    return 1 if found else 0


if __name__ == "__main__":
    sys.exit(main())
