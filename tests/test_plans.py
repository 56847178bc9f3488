"""Points 14 and 16: plans that use no rods."""

import random
import unittest

from drawing import at_once, deep_pair, face_of_rows, some_rows, turned_rows
from glazing import done_all, stand
from murrine.errors import BadLength, BadThickness, NoFace, NoRod, Short, TooThin, Twice
from murrine.faces import Faces
from murrine.needs import needed, part_kinds
from murrine.pictures import face_of
from murrine.plans import plan
from murrine.shop import Shop
from planning import check_plan, reckoned

HUGE = 10 ** 40
LONGEST = 1000000


class Planning(unittest.TestCase):
    def setUp(self):
        self.faces = Faces()
        self.shop = Shop(self.faces)

    def check(self, face, thickness, length, use=()):
        return check_plan(self, self.shop, face, thickness, length, list(use))

    def stepped(self):
        """A picture in which one kind stands in two depths, turned: its pieces are of unlike thickness."""
        small = face_of(self.faces, ["12", "34"])
        plain = self.faces.plain(5)
        middle = self.faces.four(small, plain, plain, plain)
        return small, self.faces.four(middle, self.faces.turned(small, 1), middle, plain)


class TestPlainWishes(Planning):
    def test_a_plain_rod_is_gathered(self):
        for colour, thickness, length in [(0, 0, 1), (9, 12, LONGEST), (4, 3, 17)]:
            face = self.faces.plain(colour)
            deeds, number, made = self.check(face, thickness, length)
            self.assertEqual((deeds, number), ([("gather", colour, thickness, length)], 1))

    def test_numbers_go_on_in_a_shop_with_rods(self):
        done_all(self.shop, [("gather", 1, 1, 9), ("cut", 1, 4), ("sell", 1), ("gather", 3, 3, 3)])
        deeds, number, made = self.check(self.faces.plain(1), 1, 5)
        self.assertEqual(number, 4)
        self.assertEqual(made.rods(), [2, 3, 4])


class TestPictures(Planning):
    def test_depth_one(self):
        for rows in (["12", "34"], ["11", "12"], ["90", "09"], ["77", "78"]):
            deeds, number, made = self.check(face_of(self.faces, rows), 1, 1)
            self.assertEqual([deed[0] for deed in deeds].count("bundle"), 1)

    def test_thickness_from_the_depth_on(self):
        face = face_of_rows(self.faces, some_rows(3, 2, range(4)))
        for thickness in range(2, 13):
            self.check(face, thickness, 3)

    def test_lengths(self):
        face = face_of_rows(self.faces, some_rows(4, 3, range(2)))
        for length in (1, 2, 3, 5, 999, LONGEST - 1, LONGEST):
            self.check(face, 5, length)

    def test_each_kind_is_bundled_once_though_it_stands_there_turned(self):
        four = [face_of_rows(self.faces, turned_rows([[1, 2], [3, 4]], turning)) for turning in (0, 3, 4, 6)]
        deeds, number, made = self.check(self.faces.four(*four), 2, 7)
        self.assertEqual(len(made.bundled()), 2)
        self.assertEqual(made.rods(), [number])

    def test_the_wished_face_itself_not_one_of_its_kind(self):
        first = face_of(self.faces, ["12", "34"])
        for turning in range(8):
            deeds, number, made = self.check(self.faces.turned(first, turning), 3, 2)
            self.assertEqual(made.rod(number)[0], self.faces.turned(first, turning))

    def test_pieces_of_unlike_thickness(self):
        small, face = self.stepped()
        # The small kind is needed 2 thick and 1 long, and 1 thick and 2 long: 24 cells, so 2 of length at 16 each.
        self.assertEqual(reckoned(self.faces, face, 3, 1, [])[0][self.faces.kind(small)], (2, 2))
        deeds, number, made = self.check(face, 3, 1)
        self.assertEqual(len(made.bundled()), 3)
        for thickness in (3, 4, 12):
            for length in (1, 2, 3, 4, 5, 7, 8):
                self.check(face, thickness, length)

    def test_pieces_of_three_thicknesses(self):
        small, face = self.stepped()
        plain = self.faces.plain(0)
        deeper = self.faces.four(face, self.faces.turned(small, 6), plain, self.faces.turned(face, 5))
        deepest = self.faces.four(deeper, small, face, deeper)
        for length in range(1, 20):
            self.check(deepest, 5, length)

    def test_what_is_left_over_is_less_than_one_length(self):
        small, face = self.stepped()
        made = self.check(face, 3, 1)[2]
        self.assertEqual(sum(rod[3] << (2 * rod[2]) for rod in made.look()[0]) - 4 ** 3, 2 * 4 ** 2 - 24)

    def test_many_pictures(self):
        for seed in range(40):
            chance = random.Random(seed)
            depth = chance.randrange(0, 5)
            rows = some_rows(seed, depth, range(chance.choice([2, 2, 3, 10])))
            face = face_of_rows(self.faces, rows)
            with self.subTest(seed):
                self.check(face, chance.randrange(self.faces.depth(face), 13), chance.choice([1, 2, 3, 6, 1000000]))

    def test_many_patched_pictures(self):
        for seed in range(40):
            chance = random.Random(seed)
            faces = [self.faces.plain(colour) for colour in (1, 1, 2)]
            for _ in range(7):
                four = [self.faces.turned(chance.choice(faces), chance.randrange(8)) for _ in range(4)]
                faces.append(self.faces.four(*four))
            with self.subTest(seed):
                face = faces[-1]
                self.check(face, chance.randrange(self.faces.depth(face), 13), chance.choice([1, 2, 3, 5, 999999]))

    def test_no_more_bundlings_than_needed_kinds(self):
        for seed in range(20):
            face = face_of_rows(self.faces, some_rows(seed, 3, range(2)))
            deeds = plan(self.shop, face, 12, 1, [])[0]
            self.assertEqual([deed[0] for deed in deeds].count("bundle"), len(part_kinds(self.faces, face)))
            self.assertEqual(len(part_kinds(self.faces, face)), len(needed(self.faces, face, [])))

    def test_a_plan_in_a_shop_of_many_deeds(self):
        small, face = self.stepped()
        done_all(self.shop, [("gather", 1, 1, 8)] * 4 + [("bundle", 1, 2, 3, 4), ("cut", 5, 3), ("turn", 6, 1)])
        self.shop.undo()
        self.shop.undo()
        self.check(face, 4, 3)

    def test_each_plan_is_a_list_of_its_own(self):
        face = face_of(self.faces, ["12", "34"])
        deeds, number = plan(self.shop, face, 1, 1, [])
        deeds.clear()
        self.assertTrue(plan(self.shop, face, 1, 1, [])[0])
        self.assertEqual(self.shop.deeds(), [])


class TestAtOnce(Planning):
    def test_depth_twelve(self):
        one, other = deep_pair(self.faces, 12)[:2]
        top = self.faces.four(*self.faces.quarters(one))
        for face in (one, other, top):
            for length in (1, LONGEST):
                deeds, number = at_once(lambda: plan(self.shop, face, 12, length, []))
                self.assertLessEqual(len(deeds), 500)
        made = self.check(one, 12, LONGEST)[2]
        self.assertEqual(len(made.bundled()), len(part_kinds(self.faces, one)))

    def test_one_kind_many_times(self):
        face = face_of(self.faces, ["12", "34"])
        for depth in range(2, 13):
            face = self.faces.four(*[self.faces.turned(face, turning) for turning in (0, 1, 4, 7)])
        deeds, number = at_once(lambda: plan(self.shop, face, 12, LONGEST, []))
        self.assertEqual([deed[0] for deed in deeds].count("bundle"), 12)
        self.check(face, 12, LONGEST)


class TestRefusals(Planning):
    def setUp(self):
        Planning.setUp(self)
        self.face = face_of_rows(self.faces, some_rows(3, 2, range(4)))
        self.plain = self.faces.plain(1)
        # Rod 5 shows the small picture and rod 6 is plain; rods 1 to 4 are there no more.
        done_all(self.shop, [("gather", 1, 1, 1), ("gather", 2, 1, 1), ("gather", 3, 1, 1), ("gather", 4, 1, 1),
                             ("bundle", 1, 2, 3, 4)])
        self.small = self.shop.rod(5)[0]
        self.shop.gather(7, 7, 7)
        self.shop.sell(6)
        self.shop.undo()

    def refused(self, refusal, wishes):
        before, count = stand(self.shop), 0
        for wish in wishes:
            use = list(wish[3])
            with self.subTest(wish):
                with self.assertRaises(refusal):
                    plan(self.shop, *wish[:3], use)
                self.assertEqual((stand(self.shop), use), (before, list(wish[3])))
                count += 1
        self.assertGreater(count, 0)

    def test_no_face_comes_first(self):
        self.refused(NoFace, [
            (face, thickness, length, use) for face in (-1, 10 ** 6, HUGE, -HUGE) for thickness in (1, -1, 13)
            for length in (1, 0) for use in ((), (99,), (5, 5))
        ])

    def test_bad_thickness_comes_second(self):
        self.refused(BadThickness, [
            (face, thickness, length, use) for face in (self.face, self.plain) for thickness in (-1, 13, HUGE, -HUGE)
            for length in (1, 0, LONGEST + 1) for use in ((), (99,), (5, 5))
        ])

    def test_too_thin_comes_third(self):
        self.refused(TooThin, [
            (self.face, thickness, length, use) for thickness in (0, 1) for length in (1, 0, LONGEST + 1)
            for use in ((), (99,), (5, 5))
        ])

    def test_bad_length_comes_fourth(self):
        self.refused(BadLength, [
            (face, 12, length, use) for face in (self.face, self.plain)
            for length in (0, -1, LONGEST + 1, HUGE, -HUGE) for use in ((), (99,), (5, 5))
        ])

    def test_no_rod_comes_fifth(self):
        self.refused(NoRod, [
            (face, 12, 1000, use) for face in (self.face, self.plain, self.small)
            for use in ((0,), (-1,), (1,), (7,), (99, 99), (5, 5, 99), (99, 5), (5, HUGE), (5, 6, -HUGE, 5))
        ])

    def test_twice_comes_sixth(self):
        self.refused(Twice, [
            (face, 12, LONGEST, use) for face in (self.face, self.plain, self.small)
            for use in ((5, 5), (6, 5, 6), (5, 6, 5), (6, 6))
        ])

    def test_short_comes_last(self):
        self.refused(Short, [(self.small, 12, LONGEST, (5,)), (self.small, 2, 2, (5, 6)), (self.small, 3, 1, (6, 5))])

    def test_edges_that_are_no_refusals(self):
        for length in (1, LONGEST):
            for thickness in (2, 12):
                self.check(self.face, thickness, length)
            for thickness in (0, 12):
                self.check(self.plain, thickness, length, (6, 5))


if __name__ == "__main__":
    unittest.main()
