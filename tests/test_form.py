"""The form of the package: what can be seen of its files, and the interface of what has landed."""

import ast
import inspect
import pathlib
import re
import unittest

from murrine import deeds, errors, faces, needs, orders, pages, pictures, plans, shop, turning

FOLDER = pathlib.Path(__file__).resolve().parent.parent / "murrine"

BARRED_WORDS = [
    "type", "typing", "typing_extensions", "enum", "Enum", "IntEnum", "StrEnum", "Flag", "IntFlag", "Generic",
    "Protocol", "ABC", "ABCMeta", "namedtuple", "NamedTuple", "TypedDict", "TYPE_CHECKING", "abstractmethod",
]

BARRED_NODES = (ast.Global, ast.AsyncFunctionDef, ast.Await, ast.Div, ast.Import)

FUNCTIONS = {
    turning: {"after": ["one", "other"], "back_of": ["turning"], "goes_to": ["turning", "size", "x", "y"]},
    pictures: {"rows_of": ["faces", "face", "depth"], "face_of": ["faces", "rows"]},
    needs: {"part_kinds": ["faces", "face"], "needed": ["faces", "face", "have"]},
    deeds: {"is_deed": ["deed"], "written": ["deed"], "read": ["line"]},
    plans: {"plan": ["shop", "face", "thickness", "length", "use"]},
    pages: {"page": ["shop"], "read_page": ["faces", "text"]},
}

METHODS = {
    faces.Faces: {
        "plain": ["colour"],
        "four": ["a", "b", "c", "d"],
        "depth": ["face"],
        "quarters": ["face"],
        "colour": ["face"],
        "cell": ["face", "depth", "x", "y"],
        "counts": ["face", "depth"],
        "turned": ["face", "turning"],
        "kind": ["face"],
        "turning": ["one", "other"],
        "apart": ["one", "other"],
    },
    shop.Shop: {
        "gather": ["colour", "thickness", "length"],
        "pull": ["rod", "steps"],
        "bundle": ["a", "b", "c", "d"],
        "turn": ["rod", "turning"],
        "cut": ["rod", "length"],
        "fuse": ["one", "other"],
        "sell": ["rod"],
        "waste": ["rod"],
        "do": ["deed"],
        "undo": [],
        "redo": [],
        "twin": [],
        "store": [],
        "rod": ["number"],
        "rods": [],
        "glass": [],
        "bundled": [],
        "deeds": [],
        "look": [],
    },
    orders.Order: {"left": [], "step": [], "wish": []},
}

MADE_OF = {
    faces.Faces: [],
    shop.Shop: ["faces"],
    orders.Order: ["shop", "face", "thickness", "length", "use"],
}


def package_files():
    """All files of the package, but not what Python itself keeps beside them."""
    return [path for path in sorted(FOLDER.rglob("*")) if path.is_file() and "__pycache__" not in path.parts]


class TestFiles(unittest.TestCase):
    def test_there_are_only_plain_python_files(self):
        self.assertTrue(package_files())
        for path in package_files():
            self.assertTrue(path.name == "__init__.py" or re.fullmatch(r"[a-z][a-z0-9_]*\.py", path.name), path)

    def test_signs_and_sizes(self):
        for path in package_files():
            text = path.read_bytes().decode("utf-8")
            self.assertTrue(all(sign == "\n" or " " <= sign <= "~" for sign in text), path)
            rows = text.split("\n")
            self.assertLessEqual(len(rows), 400, path)
            for row in rows:
                self.assertLessEqual(len(row), 120, path)

    def test_barred_words(self):
        for path in package_files():
            words = re.findall(r"[A-Za-z0-9_]+", path.read_text())
            self.assertEqual([word for word in words if word in BARRED_WORDS], [], path)

    def test_nodes(self):
        for path in package_files():
            for node in ast.walk(ast.parse(path.read_text())):
                self.assertNotIsInstance(node, BARRED_NODES, path)
                if isinstance(node, ast.Constant):
                    self.assertNotIsInstance(node.value, (float, complex), path)
                    if isinstance(node.value, str):
                        self.assertNotIn("%", node.value, path)
                if isinstance(node, ast.ImportFrom):
                    self.assertEqual(node.level, 0, path)
                    self.assertTrue(node.module.startswith("murrine."), path)
                    self.assertNotIn("*", [name.name for name in node.names], path)

    def test_functions_and_names(self):
        for path in package_files():
            for node in ast.walk(ast.parse(path.read_text())):
                if isinstance(node, ast.FunctionDef):
                    self.assertLessEqual(node.end_lineno - node.lineno + 1, 40, node.name)
                    self.assertTrue(node.name == "__init__" or not node.name.startswith("_"), node.name)
                if isinstance(node, ast.Name):
                    self.assertFalse(node.id.startswith("_"), node.id)
                if isinstance(node, ast.Attribute):
                    self.assertTrue(node.attr == "__init__" or not node.attr.startswith("_"), node.attr)


class TestInterface(unittest.TestCase):
    def test_functions(self):
        for module, functions in FUNCTIONS.items():
            for name, arguments in functions.items():
                function = getattr(module, name)
                self.assertEqual(function.__module__, module.__name__)
                self.assertEqual(list(inspect.signature(function).parameters), arguments)

    def test_methods_stand_in_the_class_itself(self):
        for made, methods in METHODS.items():
            for name, arguments in methods.items():
                self.assertIn(name, vars(made))
                self.assertEqual(list(inspect.signature(vars(made)[name]).parameters), ["self"] + arguments)

    def test_classes(self):
        for made, arguments in MADE_OF.items():
            self.assertEqual(list(inspect.signature(made).parameters), arguments)
        self.assertEqual(faces.Faces.__module__, "murrine.faces")
        self.assertEqual(shop.Shop.__module__, "murrine.shop")
        self.assertEqual(orders.Order.__module__, "murrine.orders")

    def test_arguments_by_name(self):
        store = faces.Faces()
        made = shop.Shop(faces=store)
        for colour in (1, 2, 3, 4):
            made.gather(colour=colour, thickness=1, length=4)
        made.bundle(a=1, b=2, c=3, d=4)
        made.pull(rod=5, steps=1)
        made.turn(rod=5, turning=1)
        made.cut(rod=5, length=3)
        made.fuse(one=5, other=6)
        made.cut(rod=5, length=8)
        made.sell(rod=5)
        made.do(deed=("gather", 1, 1, 1))
        face = made.rod(number=7)[0]
        deeds_told, number = plans.plan(shop=made, face=face, thickness=1, length=8, use=[7])
        order = orders.Order(shop=made, face=face, thickness=1, length=8, use=[7])
        self.assertEqual((order.left(), number), (len(deeds_told), 7))
        text = pages.page(shop=made)
        self.assertEqual(pages.read_page(faces=store, text=text).look(), made.look())

    def test_bad_page_has_its_field(self):
        self.assertIn("at", vars(errors.BadPage(2)))


if __name__ == "__main__":
    unittest.main()
