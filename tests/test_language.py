"""Rules of the language that a look at the code can show, and the interface: what is defined in which file."""

import ast
import builtins
import importlib
import inspect
import os
import unittest

ROOT = os.path.dirname(os.path.dirname(os.path.abspath(__file__)))
PACKAGE = os.path.join(ROOT, "samepage")

INTERFACE = {
    "samepage.errors": [
        "SamepageError", "Impossible", "MissingText", "BadDirective", "TakenName", "Misplaced", "Unclosed", "TooDeep",
        "BadShape", "UnknownPart", "UnknownName", "WrongKind", "FarList", "ListTwice", "TooLarge", "BadNotation",
        "Misfit", "NotReached", "NotAdmissible", "NoNeed", "Refused", "TooManyTruths",
    ],
    "samepage.pages.references": ["reference_text", "is_beginning", "least_reference"],
    "samepage.pages.machine": ["step", "finish"],
    "samepage.pages.tokens": ["events", "read", "is_possible"],
    "samepage.pages.writing": ["shortest_page"],
    "samepage.pages.trees": ["tree"],
    "samepage.marks.marked": ["mark_step", "marked_events", "read_row", "state_after"],
    "samepage.marks.filling": ["fill", "marks_of", "is_open", "hopeless_text"],
    "samepage.templates.shapes": ["is_name", "parse_shape", "write_shape", "field_kind", "depth_of"],
    "samepage.templates.source": ["parse_template", "write_template"],
    "samepage.templates.laying": ["lay_out", "holes_of"],
    "samepage.data.values": ["is_value", "parts_of", "same"],
    "samepage.data.notation": ["notation", "read_notation"],
    "samepage.data.records": ["misfit", "note", "read_note", "datum"],
    "samepage.ways.program": ["program", "questions"],
    "samepage.ways.reach": ["first_situations", "following", "reachable", "way_to"],
    "samepage.ways.records": ["record_of", "takes"],
    "samepage.ways.certificate": ["is_closed", "states_at"],
    "samepage.codings.coding": ["is_admissible", "coding", "coded", "is_smaller"],
    "samepage.codings.verdict": ["hole_kinds", "is_accepted", "certificate", "refusal", "shows"],
    "samepage.codings.trials": ["needs", "trial"],
    "samepage.rendering.expansion": ["expand", "own_tokens"],
    "samepage.rendering.render": ["render", "check", "reason"],
}

SIGNATURES = [
    "reference_text(text)", "is_beginning(text)", "least_reference(char)", "step(state, char)", "finish(state)", "events(page)",
    "read(page)", "is_possible(tokens)", "shortest_page(tokens)", "tree(tokens)", "mark_step(state, number)",
    "marked_events(row)", "read_row(row)", "state_after(row)", "fill(tokens, texts)", "marks_of(tokens)", "is_open(state)",
    "hopeless_text(state)", "is_name(text)", "parse_shape(text)", "write_shape(shape)", "field_kind(shape, name)",
    "depth_of(shape)", "parse_template(source)", "write_template(template)", "lay_out(template)", "holes_of(nodes)",
    "is_value(value)", "parts_of(value)", "same(one, two)", "notation(value)", "read_notation(text, most=12)",
    "misfit(record, shape)", "note(record, shape)", "read_note(text, shape)", "datum(records, path)", "program(nodes)",
    "questions(instructions, number)", "first_situations(instructions)", "following(instructions, situation)",
    "reachable(instructions)", "way_to(instructions, situation)", "record_of(shape, instructions, way)",
    "takes(instructions, record, way)", "is_closed(instructions, situations)", "states_at(instructions, situations, hole)",
    "is_admissible(kind, state)", "coding(kind, state)", "coded(coding, text)", "is_smaller(first, second)", "hole_kinds(nodes)",
    "is_accepted(nodes)", "certificate(nodes)", "refusal(shape, nodes)", "shows(nodes, situations)", "needs(state)",
    "trial(state, need)", "expand(nodes, record)", "own_tokens(nodes, record)", "render(source, record)", "check(source)",
    "reason(source)",
]

BUILTINS = (
    "len range enumerate zip min max sum abs sorted reversed int str bool bytes list tuple dict set isinstance ord "
    "repr any all divmod ValueError"
).split()
METHODS = (
    "append clear copy count endswith extend find get index insert isalnum isalpha isdigit islower isspace isupper "
    "items join keys ljust lower lstrip partition pop remove replace reverse rfind rjust rpartition rsplit rstrip "
    "setdefault split splitlines startswith strip update upper values zfill bit_length"
).split()
WORDS_THAT_ARE_NOT_USED = (
    "register mro elements open input law version_info with_traceback add_note attrgetter breakpoint builtins compile "
    "copyright credits delattr dir eval exec exit gc getattr globals hasattr help id importlib license locals "
    "methodcaller os quit setattr super type vars sys typing enum Enum Generic Protocol namedtuple dataclass"
).split()
STATEMENTS = (
    ast.FunctionDef, ast.ClassDef, ast.Return, ast.Assign, ast.AugAssign, ast.For, ast.While, ast.If, ast.Raise,
    ast.Pass, ast.Break, ast.Continue, ast.Expr, ast.ImportFrom, ast.Try,
)


def files():
    found = []
    for folder, folders, names in os.walk(PACKAGE):
        if "__pycache__" in folders:
            folders.remove("__pycache__")
        found += [os.path.join(folder, name) for name in names]
    return sorted(found)


def folders_of_package():
    return sorted({os.path.dirname(path) for path in files()})


def text_of(path):
    with open(path, encoding="utf-8", newline="") as source:
        return source.read()


def module_name(path):
    name = os.path.relpath(path, ROOT)[:-len(".py")].replace(os.sep, ".")
    return name[:-len(".__init__")] if name.endswith(".__init__") else name


TREES = {path: ast.parse(text_of(path)) for path in files() if path.endswith(".py")}


def nodes_of(kind):
    return [(path, node) for path, tree in TREES.items() for node in ast.walk(tree) if isinstance(node, kind)]


def bound_names(function):
    """The parameters and local variables of a function."""
    found = [argument.arg for argument in ast.walk(function) if isinstance(argument, ast.arg)]
    return found + [
        node.id for node in ast.walk(function) if isinstance(node, ast.Name) and isinstance(node.ctx, ast.Store)
    ]


def names_at_module_level(tree):
    found = []
    for node in tree.body:
        if isinstance(node, ast.ImportFrom):
            found += [name.name for name in node.names]
        elif isinstance(node, ast.Assign):
            found.append(node.targets[0].id)
        elif isinstance(node, (ast.FunctionDef, ast.ClassDef)):
            found.append(node.name)
    return found


class FilesTest(unittest.TestCase):
    def test_only_python_files(self):
        for path in files():
            self.assertRegex(os.path.basename(path), r"\A(__init__|[a-z][a-z0-9_]*)\.py\Z")
        self.assertLessEqual(len(files()), 100)

    def test_each_folder_is_a_package(self):
        for folder in folders_of_package():
            self.assertIn(os.path.join(folder, "__init__.py"), files())
            self.assertNotIn(folder + ".py", files())

    def test_characters_and_sizes(self):
        for path in files():
            lines = text_of(path).split("\n")
            self.assertLessEqual(len(lines), 400, path)
            for line in lines:
                self.assertLessEqual(len(line), 120, (path, line))
                self.assertTrue(all(" " <= char <= "~" for char in line), (path, line))
                self.assertEqual(line, line.rstrip(), path)

    def test_functions_have_at_most_40_lines(self):
        for path, node in nodes_of(ast.FunctionDef):
            self.assertLessEqual(node.end_lineno - node.lineno + 1, 40, (path, node.name))


class ModulesTest(unittest.TestCase):
    def test_module_level(self):
        for path, tree in TREES.items():
            for at, node in enumerate(tree.body):
                if at == 0:
                    self.assertIsNotNone(ast.get_docstring(tree), path)
                elif isinstance(node, ast.Assign):
                    self.assertEqual([type(target) for target in node.targets], [ast.Name], path)
                else:
                    self.assertIsInstance(node, (ast.ImportFrom, ast.FunctionDef, ast.ClassDef), path)

    def test_names_are_bound_once(self):
        for path, tree in TREES.items():
            names = names_at_module_level(tree)
            self.assertEqual(len(names), len(set(names)), path)

    def test_imports_name_the_file_that_defines_the_name(self):
        for path, node in nodes_of(ast.ImportFrom):
            self.assertEqual(node.level, 0, path)
            defining = os.path.join(ROOT, *node.module.split(".")) + ".py"
            self.assertIn(defining, TREES, path)
            for name in node.names:
                self.assertIsNone(name.asname, path)
                defined = [
                    child.name if isinstance(child, (ast.FunctionDef, ast.ClassDef)) else child.targets[0].id
                    for child in TREES[defining].body
                    if isinstance(child, (ast.FunctionDef, ast.ClassDef, ast.Assign))
                ]
                self.assertIn(name.name, defined, path)

    def test_no_two_files_import_each_other(self):
        imported = {module_name(path): set() for path in TREES}
        for path, node in nodes_of(ast.ImportFrom):
            imported[module_name(path)].add(node.module)
        while imported:
            ready = [name for name, needed in imported.items() if not needed & set(imported)]
            self.assertNotEqual(ready, [], sorted(imported))
            for name in ready:
                del imported[name]


class CodeTest(unittest.TestCase):
    def test_statements(self):
        for path, node in nodes_of(ast.stmt):
            self.assertIsInstance(node, STATEMENTS, (path, node.lineno))

    def test_no_decorators_floats_or_divisions(self):
        for path, node in nodes_of((ast.FunctionDef, ast.ClassDef)):
            self.assertEqual(node.decorator_list, [], path)
        for path, node in nodes_of(ast.Div):
            self.fail(path)
        for path, node in nodes_of(ast.Constant):
            self.assertNotIsInstance(node.value, (float, complex), path)

    def test_strings(self):
        for path, node in nodes_of(ast.Constant):
            if isinstance(node.value, str):
                self.assertNotIn("%", node.value, path)
                self.assertFalse(node.value.endswith(("._", ".__")), path)
                self.assertFalse(node.value.startswith("__") and node.value.endswith("__"), path)

    def test_words(self):
        for path, node in nodes_of((ast.Name, ast.arg, ast.Attribute, ast.FunctionDef, ast.ClassDef, ast.keyword)):
            names = [getattr(node, field, None) for field in ("id", "arg", "attr", "name")]
            for name in names:
                self.assertNotIn(name, WORDS_THAT_ARE_NOT_USED, (path, node.lineno))

    def test_names_have_one_meaning(self):
        for path, tree in TREES.items():
            # The examples of README.md, when they have been run, leave a builtin of the name `_`.
            taken = set(dir(builtins)) - {"_"}
            for node in tree.body:
                if isinstance(node, ast.ImportFrom):
                    taken.update(name.name for name in node.names)
                if isinstance(node, ast.ClassDef):
                    taken.add(node.name)
            for node in ast.walk(tree):
                if isinstance(node, ast.FunctionDef):
                    for name in bound_names(node):
                        self.assertNotIn(name, taken, (path, node.name))
            self.assertFalse(set(names_at_module_level(tree)) & set(dir(builtins)), path)

    def test_is_stands_beside_none_true_and_false(self):
        for path, node in nodes_of(ast.Compare):
            for operator, right in zip(node.ops, node.comparators):
                if isinstance(operator, (ast.Is, ast.IsNot)):
                    self.assertIsInstance(right, ast.Constant, (path, node.lineno))
                    self.assertIn(right.value, (None, True, False), (path, node.lineno))

    def test_handlers_name_own_errors(self):
        for path, node in nodes_of(ast.Try):
            self.assertEqual((node.orelse, node.finalbody), ([], []), path)
            for handler in node.handlers:
                self.assertIn(handler.type.id, INTERFACE["samepage.errors"], (path, node.lineno))

    def test_errors_are_created_where_they_are_raised(self):
        for path, node in nodes_of(ast.Raise):
            self.assertIn(node.exc.func.id, INTERFACE["samepage.errors"], (path, node.lineno))
            self.assertIsNone(node.cause, (path, node.lineno))

    def test_builtins_and_methods(self):
        own = [
            method.name for _, node in nodes_of(ast.ClassDef) for method in node.body if isinstance(method, ast.FunctionDef)]
        self.assertEqual(set(own) & set(METHODS), set())
        for path, node in nodes_of(ast.Name):
            if isinstance(node.ctx, ast.Load) and node.id in dir(builtins):
                self.assertIn(node.id, BUILTINS, (path, node.lineno))
        for path, node in nodes_of(ast.Call):
            if isinstance(node.func, ast.Attribute):
                self.assertIn(node.func.attr, METHODS + own, (path, node.lineno))


class InterfaceTest(unittest.TestCase):
    def test_each_name_is_defined_in_its_file(self):
        for module, names in INTERFACE.items():
            tree = TREES[os.path.join(ROOT, *module.split(".")) + ".py"]
            defined = [node.name for node in tree.body if isinstance(node, (ast.FunctionDef, ast.ClassDef))]
            for name in names:
                self.assertIn(name, defined, module)
                self.assertEqual(getattr(importlib.import_module(module), name).__module__, module)

    def test_the_arguments(self):
        found = []
        for module, names in INTERFACE.items():
            if module != "samepage.errors":
                loaded = importlib.import_module(module)
                found += [name + str(inspect.signature(getattr(loaded, name))) for name in names]
        self.assertEqual(found, SIGNATURES)


if __name__ == "__main__":
    unittest.main()
