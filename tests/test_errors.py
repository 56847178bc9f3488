"""The refusals of murrine.errors."""

import unittest

from murrine import errors
from murrine.errors import BadPage, GlassError
from murrine.faces import Faces
from murrine.orders import Order
from murrine.pages import read_page
from murrine.plans import plan
from murrine.shop import Shop
from wording import check_words

NAMES = [
    "BadColour", "NoFace", "TooDeep", "BadDepth", "NoCell", "BadTurn", "BadPicture", "NoRod", "BadThickness",
    "BadLength", "BadSteps", "TooThin", "TooThick", "Twice", "Unlike", "Short", "NothingLeft", "BadDeed", "BadLine",
    "BadPage",
]


class TestClasses(unittest.TestCase):
    def test_glass_error_stands_straight_under_value_error(self):
        self.assertEqual(GlassError.__bases__, (ValueError,))

    def test_each_stands_straight_under_glass_error(self):
        for name in NAMES:
            with self.subTest(name):
                self.assertEqual(getattr(errors, name).__bases__, (GlassError,))

    def test_there_are_no_others(self):
        self.assertEqual(sorted(made.__name__ for made in GlassError.__subclasses__()), sorted(NAMES))
        for name in NAMES:
            with self.subTest(name):
                self.assertEqual(getattr(errors, name).__subclasses__(), [])

    def test_each_is_defined_in_the_file(self):
        for name in NAMES + ["GlassError"]:
            self.assertEqual(getattr(errors, name).__module__, "murrine.errors")

    def test_each_can_be_caught_as_any_refusal(self):
        for name in NAMES:
            refusal = BadPage(1) if name == "BadPage" else getattr(errors, name)("words")
            with self.subTest(name):
                self.assertIsInstance(refusal, GlassError)
                self.assertIsInstance(refusal, ValueError)

    def test_bad_page_tells_the_line(self):
        for at in (1, 2, 37, 10 ** 30):
            self.assertEqual(BadPage(at).at, at)

    def test_a_refusal_of_one_page_keeps_its_own_line(self):
        one, other = BadPage(3), BadPage(4)
        self.assertEqual((one.at, other.at), (3, 4))


class TestWords(unittest.TestCase):
    def test_bad_page_words_hold_no_number(self):
        self.assertNotIn("37", str(BadPage(37)))

    def test_words_of_the_store_hold_no_number(self):
        faces = Faces()
        face = faces.plain(4)
        deep = face
        for _ in range(12):
            deep = faces.four(deep, face, face, faces.plain(5))
        huge = 10 ** 5000
        calls = [
            lambda: faces.plain(10), lambda: faces.plain(-1), lambda: faces.plain(huge),
            lambda: faces.four(face, face, face, 99), lambda: faces.four(deep, deep, deep, face),
            lambda: faces.depth(99), lambda: faces.depth(-huge), lambda: faces.quarters(99),
            lambda: faces.colour(99), lambda: faces.cell(99, 0, 0, 0), lambda: faces.cell(deep, 9, 0, 0),
            lambda: faces.cell(face, 21, 0, 0), lambda: faces.cell(face, huge, 0, 0),
            lambda: faces.cell(face, 2, 4, 0), lambda: faces.cell(face, 2, 0, huge),
            lambda: faces.counts(99, 1), lambda: faces.counts(face, 21), lambda: faces.turned(99, 1),
            lambda: faces.turned(face, 8), lambda: faces.turned(face, huge), lambda: faces.kind(99),
            lambda: faces.turning(99, face), lambda: faces.turning(face, huge), lambda: faces.apart(99, face),
            lambda: faces.apart(face, 99),
        ]
        check_words(self, calls)

    def test_words_of_a_shop_hold_no_number(self):
        shop = Shop(Faces())
        for thickness, length in [(12, 4)] * 4 + [(12, 5), (0, 4)]:
            shop.gather(1, thickness, length)
        huge = 10 ** 5000
        check_words(self, [
            lambda: shop.gather(10, 1, 1), lambda: shop.gather(-huge, 1, 1), lambda: shop.gather(1, 13, 1),
            lambda: shop.gather(1, huge, 1), lambda: shop.gather(1, 1, 0), lambda: shop.gather(1, 1, huge),
            lambda: shop.pull(99, 1), lambda: shop.pull(1, 0), lambda: shop.pull(1, -huge), lambda: shop.pull(1, 13),
            lambda: shop.pull(1, huge), lambda: shop.bundle(1, 2, 3, 99), lambda: shop.bundle(1, 2, 3, 3),
            lambda: shop.bundle(1, 2, 3, 5), lambda: shop.bundle(1, 2, 3, 4), lambda: shop.turn(huge, 1),
            lambda: shop.turn(1, 8), lambda: shop.turn(1, -huge), lambda: shop.cut(99, 1), lambda: shop.cut(1, 4),
            lambda: shop.cut(1, huge), lambda: shop.fuse(1, 99), lambda: shop.fuse(1, 1), lambda: shop.fuse(1, 6),
            lambda: shop.sell(-huge), lambda: shop.waste(99), lambda: shop.do(("sell",)), lambda: shop.do(()),
            lambda: shop.do(("sell", huge)), lambda: shop.rod(99), lambda: shop.redo(),
            lambda: [shop.undo() for _ in range(7)],
        ])

    def test_words_of_plans_orders_and_pages_hold_no_number(self):
        faces = Faces()
        shop = Shop(faces)
        for colour in (1, 2, 3, 4):
            shop.gather(colour, 1, 4)
        face, huge = shop.rod(shop.bundle(1, 2, 3, 4))[0], 10 ** 5000
        wishes = [
            (99, 1, 1, []), (face, 13, 1, []), (face, huge, 1, []), (face, 0, 1, []), (face, 1, 1000001, []),
            (face, 1, huge, []), (face, 1, 1, [99]), (face, 1, 1, [huge]), (face, 1, 1, [5, 5]), (face, 3, 1, [5]),
        ]
        check_words(self, [lambda wish=wish: plan(shop, *wish) for wish in wishes])
        check_words(self, [lambda wish=wish: Order(shop, *wish) for wish in wishes])
        order = Order(shop, face, 2, 4, [5])
        for _ in range(order.left()):
            order.step()
        check_words(self, [order.step, lambda: read_page(faces, "sell 7"), lambda: read_page(faces, "melt 7")])


if __name__ == "__main__":
    unittest.main()
