"""Point 19: the page of a shop, and a page read."""

import unittest

from glazing import all_looks, done_all, stand
from murrine.deeds import written
from murrine.errors import BadPage, GlassError, NothingLeft
from murrine.faces import Faces
from murrine.orders import Order
from murrine.pages import page, read_page
from murrine.pictures import face_of
from murrine.shop import Shop

DEEDS = [
    ("gather", 0, 2, 8), ("gather", 2, 2, 8), ("gather", 3, 2, 8), ("gather", 9, 2, 8), ("bundle", 4, 1, 3, 2),
    ("pull", 5, 2), ("turn", 5, 6), ("cut", 5, 100), ("fuse", 6, 5), ("cut", 6, 1), ("sell", 6), ("waste", 7),
    ("gather", 9, 12, 999999999999999), ("pull", 8, 12), ("cut", 8, 999999999999999999), ("turn", 9, 0),
]

LINES = [
    "gather 0 2 8", "gather 2 2 8", "gather 3 2 8", "gather 9 2 8", "bundle 4 1 3 2", "pull 5 2", "turn 5 6",
    "cut 5 100", "fuse 6 5", "cut 6 1", "sell 6", "waste 7", "gather 9 12 999999999999999", "pull 8 12",
    "cut 8 999999999999999999", "turn 9 0",
]

NO_LINES = [
    "", " ", "gather", "gather 1 1", "gather 1 1 1 1", "gather  1 1 1", " gather 1 1 1", "gather 1 1 1 ",
    "gather 01 1 1", "gather -1 1 1", "gather +1 1 1", "Gather 1 1 1", "gather 1,1,1", "gather 1 1 1.0", "gather a 1 1",
    "gather 1 1 1000000000000000000", "gather 1 1 1_0", "melt 1", "undo", "turn 1", "# gather 1 1 1", "1 1 1 gather",
    "gather " + "9" * 6000 + " 1 1", "~", "look",
]

# Each of these is refused behind any number of the first lines of LINES up to the fourth.
REFUSED = [
    "gather 10 1 1", "gather 1 13 1", "gather 1 1 0", "gather 1 1 1000000000000000", "pull 0 1", "pull 99 1",
    "bundle 96 97 98 99", "bundle 99 99 99 99", "turn 999999999999999999 1", "cut 99 1", "fuse 98 99", "sell 0",
    "waste 99", "sell 999999999999999999",
]


class Pages(unittest.TestCase):
    def setUp(self):
        self.faces = Faces()
        self.shop = Shop(self.faces)

    def bad(self, text, at):
        """The page is refused at that line."""
        with self.subTest(text[:80]):
            with self.assertRaises(BadPage) as told:
                read_page(self.faces, text)
            self.assertEqual(told.exception.at, at)


class TestPage(Pages):
    def test_an_empty_shop(self):
        self.assertEqual(page(self.shop), "")

    def test_one_line(self):
        self.shop.gather(1, 2, 3)
        self.assertEqual(page(self.shop), "gather 1 2 3")

    def test_all_deeds(self):
        done_all(self.shop, DEEDS)
        before = stand(self.shop)
        self.assertEqual(page(self.shop), "\n".join(LINES))
        self.assertEqual(stand(self.shop), before)

    def test_by_methods(self):
        for deed in DEEDS:
            getattr(self.shop, deed[0])(*deed[1:])
        self.assertEqual(page(self.shop), "\n".join(LINES))

    def test_only_deeds_that_count(self):
        done_all(self.shop, DEEDS)
        for many in range(len(LINES) - 1, -1, -1):
            self.shop.undo()
            self.assertEqual(page(self.shop), "\n".join(LINES[:many]))
        self.shop.redo()
        self.assertEqual(page(self.shop), LINES[0])
        self.shop.gather(1, 1, 1)
        with self.assertRaises(GlassError):
            self.shop.gather(10, 1, 1)
        self.assertEqual(page(self.shop), LINES[0] + "\ngather 1 1 1")

    def test_steps_of_an_order(self):
        order = Order(self.shop, face_of(self.faces, ["12", "34"]), 1, 5, [])
        self.shop.gather(7, 7, 7)
        deeds = self.shop.deeds() + [order.step() for _ in range(order.left())]
        self.assertEqual(page(self.shop), "\n".join(written(deed) for deed in deeds))


class TestReadPage(Pages):
    def test_the_empty_text(self):
        shop = read_page(self.faces, "")
        self.assertIsInstance(shop, Shop)
        self.assertEqual(stand(shop), stand(self.shop))
        self.assertIs(shop.store(), self.faces)

    def test_each_beginning_of_a_page(self):
        for many in range(1, len(LINES) + 1):
            shop = read_page(self.faces, "\n".join(LINES[:many]))
            self.shop.do(DEEDS[many - 1])
            self.assertEqual(stand(shop), stand(self.shop))
            self.assertIs(shop.store(), self.faces)

    def test_the_deeds_can_be_taken_back_one_by_one(self):
        shop = read_page(self.faces, "\n".join(LINES))
        with self.assertRaises(NothingLeft):
            shop.redo()
        looks = all_looks(shop, shop.undo)
        self.assertEqual(len(looks), len(LINES))
        for many, (look, deeds) in enumerate(looks[::-1]):
            self.assertEqual(deeds, DEEDS[:many])
            self.assertEqual(look, read_page(self.faces, "\n".join(LINES[:many])).look())

    def test_a_page_goes_back_and_forth(self):
        done_all(self.shop, DEEDS)
        self.shop.undo()
        self.shop.undo()
        shop = read_page(self.faces, page(self.shop))
        self.assertEqual(shop.look(), self.shop.look())
        self.assertEqual(page(shop), page(self.shop))
        other = read_page(Faces(), page(self.shop))
        self.assertEqual(page(other), page(self.shop))
        self.assertEqual(other.glass(), self.shop.glass())

    def test_shops_of_one_page_go_their_own_way(self):
        one, other = [read_page(self.faces, "gather 1 1 1\ngather 2 2 2") for _ in range(2)]
        one.sell(1)
        self.assertEqual(other.rods(), [1, 2])

    def test_a_long_page(self):
        text = "\n".join(["gather 1 1 1"] * 3000)
        self.assertEqual(len(read_page(self.faces, text).rods()), 3000)
        self.bad(text + "\nsell 3001", 3001)


class TestBadPages(Pages):
    def test_lines_that_write_no_deed(self):
        for line in NO_LINES:
            if line != "":
                self.bad(line, 1)
            for many in (1, 2, 4):
                self.bad("\n".join(LINES[:many] + [line]), many + 1)
                self.bad("\n".join(LINES[:many] + [line] + LINES[many:]), many + 1)
            self.bad("\n".join([line] + LINES), 1)

    def test_deeds_that_are_refused(self):
        for line in REFUSED:
            self.bad(line, 1)
            self.bad("\n".join([line] + LINES), 1)
            for many in (1, 2, 4):
                self.bad("\n".join(LINES[:many] + [line]), many + 1)
                self.bad("\n".join(LINES[:many] + [line] + LINES[many:]), many + 1)

    def test_deeds_that_are_refused_where_they_stand(self):
        for many, line in [(5, "sell 4"), (5, "pull 5 3"), (8, "fuse 5 5"), (6, "pull 5 1"), (9, "sell 5"),
                           (11, "cut 7 127"), (12, "waste 7"), (7, "turn 5 8"), (4, "bundle 1 2 3 3"),
                           (4, "fuse 1 2"), (16, "pull 9 1"), (4, "cut 1 8"), (1, "sell 2")]:
            self.bad("\n".join(LINES[:many] + [line] + LINES[many:]), many + 1)

    def test_a_line_end_at_the_end(self):
        for many in (1, 2, len(LINES)):
            self.bad("\n".join(LINES[:many]) + "\n", many + 1)
            self.bad("\n".join(LINES[:many]) + "\n\n", many + 1)

    def test_empty_lines(self):
        self.bad("\n", 1)
        self.bad("\n\n\n", 1)
        self.bad("\n" + LINES[0], 1)
        self.bad(LINES[0] + "\n\n" + LINES[1], 2)

    def test_the_first_of_many_wrong_lines(self):
        self.bad("\n".join(LINES[:3] + ["sell 9", "melt 1"] + LINES[3:]), 4)
        self.bad("\n".join(LINES[:3] + ["melt 1", "sell 9"] + LINES[3:]), 4)
        self.bad("\n".join(LINES + ["sell 7", "", "x"]), len(LINES) + 1)

    def test_a_refused_page_is_a_refusal_of_its_own(self):
        for text in ("sell 1", "melt 1", "gather 10 1 1"):
            with self.assertRaises(GlassError) as told:
                read_page(self.faces, text)
            self.assertIsInstance(told.exception, BadPage)


if __name__ == "__main__":
    unittest.main()
