"""Points 14 to 16: plans beside rods that may be used up, and when these reach."""

import random
import unittest

from drawing import at_once, deep_pair
from glazing import done_all, stand
from murrine.errors import Short
from murrine.faces import Faces
from murrine.pictures import face_of
from murrine.plans import plan
from murrine.shop import Shop
from planning import check_plan, do_plan, kind_of, reach

LONGEST = 1000000


class WithRods(unittest.TestCase):
    def setUp(self):
        self.faces = Faces()
        self.shop = Shop(self.faces)
        self.small = face_of(self.faces, ["12", "34"])
        self.five = self.faces.plain(5)

    def made(self, face, thickness, length):
        """A new rod of that face in the shop."""
        deeds, number = plan(self.shop, face, thickness, length, [])
        done_all(self.shop, deeds)
        return number

    def check(self, face, thickness, length, use):
        """Makes a plan, and gives the faces that it bundles."""
        made = check_plan(self, self.shop, face, thickness, length, use)[2]
        return made.bundled()[len(self.shop.bundled()):]

    def short(self, face, thickness, length, use):
        before, handed = stand(self.shop), list(use)
        with self.assertRaises(Short):
            plan(self.shop, face, thickness, length, use)
        self.assertEqual((stand(self.shop), use), (before, handed))


class TestTheWishedKind(WithRods):
    def test_a_rod_that_is_just_as_wished(self):
        rod = self.made(self.small, 4, 6)
        self.assertEqual(self.check(self.small, 4, 6, [rod]), [])

    def test_a_longer_and_a_thicker_rod(self):
        rod = self.made(self.small, 4, 6)
        for thickness, length in [(4, 1), (4, 5), (3, 24), (3, 23), (1, 1), (1, 384)]:
            self.assertEqual(self.check(self.small, thickness, length, [rod]), [])

    def test_just_short_by_one(self):
        rod = self.made(self.small, 4, 6)
        for thickness, length in [(4, 7), (3, 25), (2, 97), (1, 385), (5, 1), (12, 1), (5, LONGEST)]:
            self.short(self.small, thickness, length, [rod])

    def test_a_turned_kind(self):
        rod = self.made(self.small, 2, 8)
        for turning in range(8):
            face = self.faces.turned(self.small, turning)
            self.assertEqual(self.check(face, 2, 8, [rod]), [])
            self.assertEqual(self.check(face, 1, 7, [rod]), [])
            self.short(face, 2, 9, [rod])

    def test_rods_turned_each_in_another_way(self):
        rods = [self.made(self.faces.turned(self.small, turning), 3, 5) for turning in range(8)]
        for many in range(1, 9):
            self.assertEqual(self.check(self.small, 3, 5 * many, rods[:many]), [])
            self.short(self.small, 3, 5 * many + 1, rods[:many])

    def test_rods_of_unlike_thickness(self):
        thin, middle, thick = [self.made(self.small, thickness, 3) for thickness in (1, 2, 3)]
        self.check(self.small, 2, 15, [thin, middle, thick])
        self.short(self.small, 2, 16, [thin, middle, thick])
        self.check(self.small, 1, 63, [middle, thin, thick])
        self.short(self.small, 1, 64, [thick, thin, middle])
        self.check(self.small, 3, 3, [thin, middle, thick])
        self.short(self.small, 3, 4, [thin, middle, thick])

    def test_a_kind_that_is_had_is_never_bundled_anew(self):
        wide = self.faces.four(self.small, self.five, self.five, self.small)
        rod = self.made(wide, 2, 1)
        self.short(wide, 3, 1, [rod])
        self.short(wide, 2, 2, [rod, self.made(self.small, 5, 5)])

    def test_a_symmetric_picture(self):
        face = face_of(self.faces, ["12", "21"])
        rods = [self.made(face, 2, 1), self.made(self.faces.turned(face, 1), 2, 1)]
        self.check(face, 2, 2, rods)
        self.short(face, 2, 3, rods)


class TestParts(WithRods):
    def setUp(self):
        WithRods.setUp(self)
        self.turned = self.faces.turned(self.small, 6)
        self.wide = self.faces.four(self.small, self.five, self.turned, self.small)

    def test_parts_are_taken(self):
        rod = self.made(self.small, 1, 30)
        self.assertEqual(self.check(self.wide, 2, 10, [rod]), [self.faces.kind(self.wide)])
        self.assertEqual(self.check(self.wide, 2, 9, [rod]), [self.faces.kind(self.wide)])
        self.short(self.wide, 2, 11, [rod])
        self.short(self.wide, 3, 1, [rod])

    def test_parts_of_parts(self):
        deep = self.faces.four(self.wide, self.turned, self.five, self.faces.turned(self.wide, 3))
        # Of the small kind one piece is needed 3 thick, and three more 2 thick and twice as long: 64 + 6 * 16 cells.
        rod = self.made(self.small, 3, 3)
        self.assertEqual(len(self.check(deep, 4, 1, [rod])), 2)
        thick, thin = self.made(self.small, 3, 1), self.made(self.small, 2, 6)
        self.assertEqual(len(self.check(deep, 4, 1, [thin, thick])), 2)
        self.short(deep, 4, 1, [thick])
        self.short(deep, 4, 1, [thin])
        self.short(deep, 4, 1, [thick, self.made(self.small, 2, 5)])
        self.short(deep, 4, 1, [self.made(self.small, 2, 99)])

    def test_a_part_within_a_had_part_is_not_needed(self):
        deep = self.faces.four(self.wide, self.wide, self.five, self.five)
        rods = [self.made(self.wide, 2, 20), self.made(self.small, 1, 1)]
        self.assertEqual(self.check(deep, 3, 10, rods), [self.faces.kind(deep)])
        self.short(deep, 3, 11, rods)
        # The small kind is needed beside the wide one here, so its rod must reach, too.
        deeper = self.faces.four(self.wide, self.wide, self.five, self.small)
        self.short(deeper, 3, 10, rods)
        self.short(deeper, 3, 1, rods)
        self.check(deeper, 3, 10, [rods[0], self.made(self.small, 2, 10)])

    def test_both_kinds_must_reach(self):
        other = face_of(self.faces, ["66", "67"])
        both = self.faces.four(self.small, other, other, self.small)
        for one, two in [(2, 2), (2, 1), (1, 2), (1, 1)]:
            rods = [self.made(self.small, 1, one), self.made(other, 1, two)]
            if one == two == 2:
                self.assertEqual(self.check(both, 2, 1, rods), [self.faces.kind(both)])
            else:
                self.short(both, 2, 1, rods)
                self.short(both, 2, 1, rods[::-1])

    def test_no_rods_some_and_all(self):
        rods = [self.made(self.small, 1, 12), self.made(self.wide, 2, 4), self.made(self.five, 3, 9)]
        self.assertEqual(len(self.check(self.wide, 2, 4, [])), 2)
        self.assertEqual(len(self.check(self.wide, 2, 4, rods[:1])), 1)
        self.assertEqual(len(self.check(self.wide, 2, 4, rods[1:])), 0)
        self.assertEqual(len(self.check(self.wide, 2, 4, rods)), 0)
        self.assertEqual(len(self.check(self.wide, 2, 4, rods[2:])), 2)

    def test_rods_of_other_pictures_do_not_matter(self):
        rods = [self.made(face_of(self.faces, ["89", "98"]), 1, 1), self.made(self.five, 0, 1)]
        self.assertEqual(len(self.check(self.wide, 2, 4, rods)), 2)
        self.assertEqual(self.check(self.faces.plain(8), 2, 4, rods), [])

    def test_plain_rods_do_not_reach_or_fall_short(self):
        rod = self.made(self.five, 0, 1)
        deeds, number, made = check_plan(self, self.shop, self.five, 12, LONGEST, [rod])
        self.assertIn(("gather", 5, 12, LONGEST), deeds)
        self.check(self.wide, 12, LONGEST, [rod])

    def test_the_order_of_the_rods_does_not_matter(self):
        rods = [self.made(self.small, 3, 1), self.made(self.turned, 1, 7), self.made(self.small, 2, 3)]
        for use in (rods, rods[::-1], rods[1:] + rods[:1]):
            self.check(self.wide, 2, 11, list(use))
            self.short(self.wide, 2, 12, list(use))

    def test_a_rod_that_is_longer_than_any_piece(self):
        rods = [self.shop.gather(colour, 11, 999999999999999) for colour in (1, 2, 3, 4)]
        rod = self.shop.bundle(*rods)
        self.shop.pull(rod, 11)
        self.assertGreater(self.shop.rod(rod)[2], 10 ** 21)
        self.assertEqual(self.check(self.small, 1, LONGEST, [rod]), [])
        self.assertEqual(self.check(self.wide, 2, LONGEST, [rod]), [self.faces.kind(self.wide)])


class TestManyWishes(WithRods):
    def some_faces(self, chance):
        """Pictures that stand in each other, turned."""
        faces = [self.faces.plain(colour) for colour in (1, 2, 2)]
        for _ in range(6):
            four = [self.faces.turned(chance.choice(faces), chance.randrange(8)) for _ in range(4)]
            faces.append(self.faces.four(*four))
        return faces

    def test_plans_reach_just_where_the_document_says(self):
        told = {True: 0, False: 0}
        for seed in range(60):
            chance = random.Random(seed)
            self.shop = Shop(self.faces)
            faces = self.some_faces(chance)
            rods = []
            for _ in range(chance.randrange(1, 6)):
                face = chance.choice(faces[:-1])
                thickness = min(12, self.faces.depth(face) + chance.randrange(4))
                rods.append(self.made(self.faces.turned(face, chance.randrange(8)), thickness, chance.randrange(1, 9)))
            use = chance.sample(rods, chance.randrange(len(rods) + 1))
            for face in faces[3:]:
                thickness = self.faces.depth(face) + chance.randrange(2)
                for length in (1, 2, 7):
                    with self.subTest((seed, face, thickness, length)):
                        reached = reach(self.shop, face, thickness, length, use)
                        told[reached] += 1
                        if reached:
                            self.check(face, thickness, length, use)
                        else:
                            self.short(face, thickness, length, use)
        self.assertGreater(min(told.values()), 100, told)

    def test_longest_length_that_the_rods_reach(self):
        for seed in range(60, 75):
            chance = random.Random(seed)
            self.shop = Shop(self.faces)
            face = self.some_faces(chance)[-1]
            kinds = sorted({kind_of(self.faces, quarter) for quarter in self.faces.quarters(face)})
            kinds = [kind for kind in kinds if self.faces.depth(kind) > 0]
            if not kinds:
                continue
            thickness = self.faces.depth(face)
            use = [self.made(kind, thickness - 1 + chance.randrange(2), chance.randrange(4, 40)) for kind in kinds]
            lengths = [length for length in range(1, 200) if reach(self.shop, face, thickness, length, use)]
            self.assertEqual(lengths, list(range(1, len(lengths) + 1)))
            if lengths:
                self.check(face, thickness, lengths[-1], use)
            self.short(face, thickness, len(lengths) + 1, use)


class TestAtOnce(WithRods):
    def test_deep_wishes_beside_deep_rods(self):
        one, other = deep_pair(self.faces, 11)[:2]
        top = self.faces.four(one, other, self.faces.turned(one, 3), one)
        rods = [self.made(one, 12, 1), self.made(self.faces.turned(other, 5), 11, 5)]
        deeds, number = at_once(lambda: plan(self.shop, top, 12, 1, rods))
        self.assertEqual(do_plan(self, self.shop.twin(), deeds, rods), [(self.faces.kind(top), 12, 1)])
        self.check(top, 12, 1, rods)
        self.short(top, 12, 2, rods)
        self.short(one, 11, 5, rods[:1])


if __name__ == "__main__":
    unittest.main()
