"""Points 1, 9 and 11: what a shop tells of its rods, its glass, its bundlings and its deeds."""

import unittest

from drawing import at_once, deep_pair
from glazing import done_all, stand
from murrine.errors import NoRod
from murrine.faces import Faces
from murrine.needs import part_kinds
from murrine.pictures import face_of
from murrine.shop import Shop

HUGE = 10 ** 40
LONGEST = 999999999999999
NO_GLASS = (0, 0, 0, 0)

# A picture of depth two, cut and turned and fused, with rods that were sold and wasted between.
DEEDS = [
    ("gather", 1, 1, 8), ("gather", 2, 1, 8), ("gather", 2, 1, 8), ("gather", 0, 1, 8),
    ("bundle", 1, 2, 3, 4), ("cut", 5, 6), ("turn", 6, 5), ("cut", 5, 4), ("cut", 5, 2),
    ("gather", 9, 3, 2), ("pull", 9, 1), ("cut", 9, 2), ("sell", 10), ("bundle", 6, 7, 8, 9), ("waste", 5),
]


def long_shop(faces):
    """A shop with one rod that is longer than any rod that is gathered."""
    shop = Shop(faces)
    shop.gather(4, 12, LONGEST)
    shop.pull(1, 12)
    return shop


class Looking(unittest.TestCase):
    def setUp(self):
        self.faces = Faces()
        self.shop = Shop(self.faces)


class TestAnEmptyShop(Looking):
    def test_it_has_nothing(self):
        self.assertEqual(self.shop.rods(), [])
        self.assertEqual(self.shop.deeds(), [])
        self.assertEqual(self.shop.bundled(), [])
        self.assertEqual(self.shop.glass(), [NO_GLASS] * 10)
        self.assertEqual(self.shop.look(), ([], 1, [NO_GLASS] * 10, []))

    def test_the_store_is_the_very_one(self):
        self.assertIs(self.shop.store(), self.faces)
        self.assertIs(self.shop.twin().store(), self.faces)
        # A store that has met nothing is a store, too.
        other = Faces()
        self.assertIs(Shop(other).store(), other)

    def test_shops_of_one_store_have_rods_of_their_own(self):
        other = Shop(self.faces)
        self.shop.gather(1, 1, 1)
        self.assertEqual((other.rods(), other.look()[1]), ([], 1))
        self.assertEqual(other.gather(2, 2, 2), 1)
        self.assertEqual(self.shop.rod(1), (self.faces.plain(1), 1, 1))


class TestRods(Looking):
    def test_what_is_told_of_a_rod(self):
        self.shop.gather(3, 4, 5)
        told = self.shop.rod(1)
        self.assertIsInstance(told, tuple)
        self.assertEqual(told, (self.faces.plain(3), 4, 5))

    def test_no_rod(self):
        done_all(self.shop, DEEDS)
        before = stand(self.shop)
        for number in (0, -1, 1, 4, 5, 10, 13, HUGE, -HUGE):
            with self.assertRaises(NoRod):
                self.shop.rod(number)
        self.assertEqual(stand(self.shop), before)

    def test_numbers_rise(self):
        done_all(self.shop, DEEDS)
        self.assertEqual(self.shop.rods(), [11])
        for at in range(12, 24):
            self.assertEqual(self.shop.gather(1, 1, 1), at)
        self.shop.sell(15)
        self.shop.undo()
        self.shop.sell(11)
        self.shop.waste(18)
        self.shop.undo()
        self.assertEqual(self.shop.rods(), list(range(12, 24)))

    def test_rods_that_come_back_stand_in_their_order(self):
        for _ in range(4):
            self.shop.gather(1, 1, 1)
        self.shop.bundle(4, 2, 3, 1)
        self.shop.undo()
        self.assertEqual(self.shop.rods(), [1, 2, 3, 4])
        self.assertEqual([rod[0] for rod in self.shop.look()[0]], [1, 2, 3, 4])


class TestGlass(Looking):
    def test_by_hand(self):
        done_all(self.shop, DEEDS)
        glass = self.shop.glass()
        self.assertEqual(glass[0], (32, 24, 0, 8))
        self.assertEqual(glass[1], (32, 24, 0, 8))
        self.assertEqual(glass[2], (64, 48, 0, 16))
        self.assertEqual(glass[9], (128, 32, 96, 0))
        self.assertEqual(glass[3:9], [NO_GLASS] * 6)

    def test_kinds_of_values(self):
        glass = self.shop.glass()
        self.assertIsInstance(glass, list)
        self.assertTrue(all(isinstance(told, tuple) for told in glass))

    def test_none_is_lost_or_made(self):
        for deed in DEEDS:
            self.shop.do(deed)
            for gathered, held, sold, wasted in self.shop.glass():
                self.assertEqual(gathered, held + sold + wasted)

    def test_each_colour_and_thickness(self):
        for colour in range(10):
            self.shop.gather(colour, colour + 3, colour + 1)
            self.assertEqual(self.shop.glass()[colour], ((colour + 1) * 4 ** (colour + 3),) * 2 + (0, 0))

    def test_a_picture_thicker_than_deep(self):
        for colour in (1, 2, 2, 3):
            self.shop.gather(colour, 6, 10)
        self.shop.bundle(1, 2, 3, 4)
        self.assertEqual([told[1] for told in self.shop.glass()][1:4], [10 * 4 ** 6, 2 * 10 * 4 ** 6, 10 * 4 ** 6])
        self.shop.pull(5, 6)
        self.assertEqual([told[1] for told in self.shop.glass()][1:4], [10 * 4 ** 6, 2 * 10 * 4 ** 6, 10 * 4 ** 6])

    def test_sold_and_wasted_are_sums(self):
        for number in range(1, 7):
            self.shop.gather(5, 1, number)
        for number in (1, 4):
            self.shop.sell(number)
        for number in (2, 3, 6):
            self.shop.waste(number)
        self.assertEqual(self.shop.glass()[5], (84, 20, 20, 44))


class TestBundled(Looking):
    def test_as_they_came(self):
        done_all(self.shop, DEEDS)
        first = face_of(self.faces, ["12", "20"])
        turned = self.faces.turned(first, 5)
        whole = self.faces.four(turned, first, first, self.faces.plain(9))
        self.assertEqual(self.shop.bundled(), [first, whole])

    def test_each_bundling_also_of_plain_and_known_faces(self):
        for colours in ("1111", "1234", "5555", "1234", "1111"):
            self.shop.bundle(*[self.shop.gather(int(colour), 0, 1) for colour in colours])
        plain, face = self.faces.plain(1), face_of(self.faces, ["12", "34"])
        self.assertEqual(self.shop.bundled(), [plain, face, self.faces.plain(5), face, plain])

    def test_a_turn_changes_no_bundling(self):
        rod = self.shop.bundle(*[self.shop.gather(colour, 0, 1) for colour in (1, 2, 3, 4)])
        self.shop.turn(rod, 1)
        self.shop.sell(rod)
        self.assertEqual(self.shop.bundled(), [face_of(self.faces, ["12", "34"])])

    def test_each_kind_of_the_parts_of_a_rod_was_bundled(self):
        for deed in DEEDS:
            self.shop.do(deed)
            kinds = {self.faces.kind(face) for face in self.shop.bundled()}
            for rod in self.shop.look()[0]:
                self.assertLessEqual(set(part_kinds(self.faces, rod[1])), kinds)


class TestDeeds(Looking):
    def test_as_tuples_in_their_order(self):
        done_all(self.shop, DEEDS)
        self.assertEqual(self.shop.deeds(), DEEDS)
        self.assertTrue(all(isinstance(deed, tuple) for deed in self.shop.deeds()))

    def test_by_methods(self):
        for deed in DEEDS:
            getattr(self.shop, deed[0])(*deed[1:])
        self.assertEqual(self.shop.deeds(), DEEDS)


class TestLook(Looking):
    def test_all_in_one(self):
        done_all(self.shop, DEEDS[:-2])
        told = self.shop.look()
        self.assertIsInstance(told, tuple)
        rods, coming, glass, bundled = told
        self.assertEqual(rods, [(number, *self.shop.rod(number)) for number in (5, 6, 7, 8, 9)])
        self.assertTrue(all(isinstance(rod, tuple) for rod in rods))
        self.assertEqual((coming, glass, bundled), (11, self.shop.glass(), self.shop.bundled()))
        self.assertEqual([rod[2:] for rod in rods], [(2, 2), (2, 2), (2, 2), (2, 2), (2, 2)])

    def test_the_next_number_is_the_one_that_comes(self):
        for deed in DEEDS:
            coming = self.shop.look()[1]
            answer = self.shop.do(deed)
            if answer is not None:
                self.assertEqual(answer, coming)
                coming += 1
            self.assertEqual(self.shop.look()[1], coming)


class TestNewEachTime(Looking):
    def test_emptying_what_is_told_changes_nothing(self):
        done_all(self.shop, DEEDS[:-2])
        self.shop.undo()
        before = stand(self.shop)
        for told in (self.shop.rods(), self.shop.glass(), self.shop.bundled(), self.shop.deeds()):
            self.assertTrue(told)
            told.clear()
            self.assertEqual(stand(self.shop), before)
        rods, _, glass, bundled = self.shop.look()
        rods.clear()
        glass.clear()
        bundled.clear()
        self.assertEqual(stand(self.shop), before)

    def test_what_was_told_stays_as_it_was(self):
        done_all(self.shop, DEEDS[:-2])
        told = (self.shop.rods(), self.shop.glass(), self.shop.bundled(), self.shop.deeds(), self.shop.look())
        copies = (list(told[0]), list(told[1]), list(told[2]), list(told[3]))
        done_all(self.shop, DEEDS[-2:])
        self.shop.gather(1, 1, 1)
        self.assertEqual(told[:4], copies)
        self.assertEqual(told[4][1:], (11, copies[1], copies[2]))


class TestAtOnce(Looking):
    def test_lengths_of_any_size(self):
        shop = long_shop(self.faces)
        for _ in range(40):
            rod = shop.gather(4, 12, LONGEST)
            shop.pull(rod, 12)
            shop.fuse(1, rod)
        glass = 41 * LONGEST * 4 ** 12
        self.assertEqual(at_once(shop.look)[2][4], (glass, glass, 0, 0))
        self.assertEqual(shop.rod(1)[2], glass)

    def test_deep_pictures(self):
        one, other = deep_pair(self.faces, 12)[:2]
        shop = Shop(self.faces)
        for colours in ("1221", "2111"):
            shop.bundle(*[shop.gather(int(colour), 0, 5 ** 11) for colour in colours])
        first, second = 5, 10
        for _ in range(11):
            ones, others = in_fifths(shop, first), in_fifths(shop, second)
            first, second = at_once(lambda: next_two(shop, ones, others))
        self.assertEqual({shop.rod(first)[0], shop.rod(second)[0]}, {one, other})
        told = at_once(shop.look)
        self.assertEqual([rod[2:] for rod in told[0]][-2:], [(12, 1), (12, 1)])
        self.assertEqual(told[2][1:3], [(5 ** 12, 5 ** 12, 0, 0), (3 * 5 ** 11, 3 * 5 ** 11, 0, 0)])


def in_fifths(shop, rod):
    """The numbers of five rods of one length into which a rod is cut."""
    length = shop.rod(rod)[2] // 5
    rods = [rod]
    while len(rods) < 5:
        rods.append(shop.cut(rods[-1], length))
    return rods


def next_two(shop, ones, others):
    """The pictures (one, other, other, one) and (other, one, one, one) as rods."""
    first = shop.bundle(ones[0], others[0], others[1], ones[1])
    second = shop.bundle(others[2], ones[2], ones[3], ones[4])
    return first, second


if __name__ == "__main__":
    unittest.main()
