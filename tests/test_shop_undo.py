"""Point 12: taking back, doing again, and twins."""

import unittest

from glazing import all_looks, done_all, stand
from murrine.errors import BadColour, GlassError, NoRod, NothingLeft, Unlike
from murrine.faces import Faces
from murrine.pages import read_page
from murrine.shop import Shop

# Each deed stands here, and each kind of rod: new ones, changed ones, ones that go.
DEEDS = [
    ("gather", 1, 2, 8), ("gather", 2, 2, 8), ("gather", 3, 2, 8), ("gather", 4, 2, 8), ("bundle", 4, 1, 3, 2),
    ("pull", 5, 2), ("turn", 5, 6), ("cut", 5, 100), ("fuse", 6, 5), ("cut", 6, 1), ("turn", 7, 0), ("sell", 6),
    ("gather", 9, 12, 999999999999999), ("waste", 7),
]

WRONG = [("gather", 10, 1, 1), ("pull", 8, 0), ("cut", 8, 0), ("sell", 99), ("melt", 1), ("turn", 8, 8), ()]


class Undoing(unittest.TestCase):
    def setUp(self):
        self.shop = Shop(Faces())

    def nothing_left(self, call):
        before = stand(self.shop)
        with self.assertRaises(NothingLeft):
            call()
        self.assertEqual(stand(self.shop), before)

    def refused(self, deed):
        with self.assertRaises(GlassError):
            self.shop.do(deed)


class TestUndo(Undoing):
    def test_all_is_as_it_was(self):
        looks = []
        for deed in DEEDS:
            looks.append((self.shop.look(), self.shop.deeds(), self.shop.rods()))
            self.shop.do(deed)
        for told in looks[::-1]:
            self.assertIsNone(self.shop.undo())
            self.assertEqual((self.shop.look(), self.shop.deeds(), self.shop.rods()), told)
        self.nothing_left(self.shop.undo)

    def test_each_deed_alone(self):
        for at, deed in enumerate(DEEDS):
            before = stand(self.shop)[:3]
            self.shop.do(deed)
            self.shop.undo()
            self.assertEqual(stand(self.shop)[:3], before, at)
            self.shop.do(deed)

    def test_an_empty_shop(self):
        self.nothing_left(self.shop.undo)
        self.shop.gather(1, 1, 1)
        self.shop.undo()
        self.nothing_left(self.shop.undo)

    def test_a_number_taken_back_comes_again(self):
        for _ in range(3):
            self.shop.gather(1, 1, 1)
        self.shop.undo()
        self.assertEqual(self.shop.look()[1], 3)
        self.assertEqual(self.shop.gather(2, 2, 2), 3)
        self.shop.cut(3, 1)
        self.shop.undo()
        self.assertEqual(self.shop.rod(3)[2], 2)
        self.assertEqual(self.shop.cut(3, 1), 4)

    def test_a_rod_that_is_no_more_is_there_again(self):
        self.shop.gather(1, 1, 1)
        self.shop.sell(1)
        with self.assertRaises(NoRod):
            self.shop.rod(1)
        self.shop.undo()
        self.assertEqual(self.shop.rod(1), (self.shop.store().plain(1), 1, 1))
        self.assertEqual(self.shop.glass()[1], (4, 4, 0, 0))

    def test_a_rod_of_a_deed_taken_back_is_not_there(self):
        self.shop.gather(1, 1, 4)
        self.shop.cut(1, 2)
        self.shop.undo()
        with self.assertRaises(NoRod):
            self.shop.sell(2)

    def test_a_refused_deed_is_not_taken_back(self):
        self.shop.gather(1, 1, 1)
        self.shop.gather(2, 1, 1)
        with self.assertRaises(BadColour):
            self.shop.gather(10, 1, 1)
        with self.assertRaises(Unlike):
            self.shop.fuse(1, 2)
        self.shop.undo()
        self.assertEqual(self.shop.deeds(), [("gather", 1, 1, 1)])


class TestRedo(Undoing):
    def test_all_is_done_again(self):
        looks = [stand(self.shop)[0]]
        for deed in DEEDS:
            self.shop.do(deed)
            looks.append(self.shop.look())
        for _ in DEEDS:
            self.shop.undo()
        for told, deed in zip(looks, DEEDS):
            self.assertEqual(self.shop.look(), told)
            self.assertIsNone(self.shop.redo())
            self.assertEqual(self.shop.deeds()[-1], deed)
        self.assertEqual((self.shop.look(), self.shop.deeds()), (looks[-1], DEEDS))
        self.nothing_left(self.shop.redo)

    def test_back_and_forth(self):
        done_all(self.shop, DEEDS)
        before = stand(self.shop)
        for many in (1, 5, 14, 3):
            for _ in range(many):
                self.shop.undo()
            for _ in range(many - 1):
                self.shop.redo()
            self.shop.undo()
            self.shop.redo()
            self.shop.redo()
            self.assertEqual(stand(self.shop), before)

    def test_nothing_was_taken_back(self):
        self.nothing_left(self.shop.redo)
        done_all(self.shop, DEEDS)
        self.nothing_left(self.shop.redo)

    def test_another_deed_ends_it(self):
        done_all(self.shop, DEEDS[:8])
        for _ in range(3):
            self.shop.undo()
        self.shop.do(("turn", 5, 1))
        self.nothing_left(self.shop.redo)
        self.shop.undo()
        self.shop.redo()
        self.assertEqual(self.shop.deeds(), DEEDS[:5] + [("turn", 5, 1)])
        self.nothing_left(self.shop.redo)

    def test_the_same_deed_ends_it_too(self):
        done_all(self.shop, DEEDS[:8])
        for _ in range(3):
            self.shop.undo()
        self.shop.do(DEEDS[5])
        self.nothing_left(self.shop.redo)

    def test_a_deed_by_its_method_ends_it(self):
        done_all(self.shop, DEEDS[:4])
        self.shop.undo()
        self.shop.gather(4, 2, 8)
        self.nothing_left(self.shop.redo)

    def test_a_refused_deed_does_not_end_it(self):
        done_all(self.shop, DEEDS)
        after = self.shop.look()
        for _ in range(4):
            self.shop.undo()
        before = stand(self.shop)
        for deed in WRONG:
            self.refused(deed)
            self.assertEqual(stand(self.shop), before)
        for _ in range(4):
            self.shop.redo()
        self.assertEqual(self.shop.look(), after)

    def test_a_deed_done_again_is_taken_back_again(self):
        done_all(self.shop, DEEDS[:5])
        bundled = self.shop.look()
        self.shop.undo()
        four = self.shop.look()
        for _ in range(3):
            self.shop.redo()
            self.assertEqual(self.shop.look(), bundled)
            self.shop.undo()
            self.assertEqual(self.shop.look(), four)

    def test_looks_do_not_end_it(self):
        done_all(self.shop, DEEDS)
        self.shop.undo()
        self.shop.look()
        self.shop.twin()
        self.shop.deeds()
        self.shop.redo()
        self.assertEqual(self.shop.deeds(), DEEDS)


class TestTwin(Undoing):
    def setUp(self):
        Undoing.setUp(self)
        done_all(self.shop, DEEDS)
        for _ in range(5):
            self.shop.undo()

    def test_it_stands_as_the_first_does(self):
        twin = self.shop.twin()
        self.assertIsInstance(twin, Shop)
        self.assertIs(twin.store(), self.shop.store())
        self.assertEqual(stand(twin), stand(self.shop))
        self.assertEqual(twin.rods(), self.shop.rods())
        self.assertEqual(twin.glass(), self.shop.glass())

    def test_the_first_stays_as_it_is(self):
        before = stand(self.shop)
        for work in (lambda twin: all_looks(twin, twin.undo), lambda twin: all_looks(twin, twin.redo),
                     lambda twin: done_all(twin, [("gather", 5, 5, 5), ("sell", 6), ("cut", 7, 1)]),
                     lambda twin: [twin.undo(), twin.gather(0, 0, 1), twin.undo(), twin.undo()],
                     lambda twin: [twin.redo(), twin.redo(), twin.waste(7), twin.undo()]):
            twin = self.shop.twin()
            work(twin)
            self.assertNotEqual(stand(twin), before)
            self.assertEqual(stand(self.shop), before)

    def test_the_twin_stays_as_it_is(self):
        twin = self.shop.twin()
        before = stand(twin)
        self.shop.redo()
        self.shop.redo()
        self.assertEqual(stand(twin), before)
        self.shop.gather(1, 1, 1)
        self.assertEqual(stand(twin), before)
        all_looks(self.shop, self.shop.undo)
        self.assertEqual(stand(twin), before)

    def test_both_go_their_own_way_with_the_same_numbers(self):
        twin = self.shop.twin()
        self.assertEqual(self.shop.gather(1, 1, 1), 7)
        self.assertEqual(twin.gather(2, 2, 2), 7)
        self.assertEqual(self.shop.rod(7), (self.shop.store().plain(1), 1, 1))
        self.assertEqual(twin.rod(7), (self.shop.store().plain(2), 2, 2))
        self.shop.undo()
        self.assertEqual(twin.rod(7), (self.shop.store().plain(2), 2, 2))

    def test_a_twin_of_a_twin(self):
        twin = self.shop.twin().twin()
        self.assertEqual(stand(twin), stand(self.shop))
        twin.redo()
        self.assertNotEqual(stand(twin), stand(self.shop))

    def test_a_twin_of_an_empty_shop(self):
        shop = Shop(self.shop.store())
        twin = shop.twin()
        twin.gather(1, 1, 1)
        self.assertEqual(shop.rods(), [])

    def test_taking_back_behind_a_twin(self):
        # A deed done ahead of the twin is taken back in both, each by itself.
        twin = self.shop.twin()
        self.shop.undo()
        self.assertEqual(len(twin.deeds()), len(self.shop.deeds()) + 1)
        twin.undo()
        self.assertEqual(stand(twin), stand(self.shop))
        twin.redo()
        self.shop.redo()
        self.assertEqual(stand(twin), stand(self.shop))


class TestReadShops(Undoing):
    def test_a_shop_of_a_page_is_taken_back_one_by_one(self):
        shop = read_page(self.shop.store(), "gather 1 1 1\ngather 2 1 2\ncut 2 1")
        looks = all_looks(shop, shop.undo)
        self.assertEqual([told[0][1] for told in looks], [3, 2, 1])


if __name__ == "__main__":
    unittest.main()
