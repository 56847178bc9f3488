"""Point 10: each deed of a shop, its answer, its edges, and its refusals in their order."""

import unittest

from drawing import turned_rows
from glazing import done_all, stand
from murrine.errors import (
    BadColour, BadLength, BadSteps, BadThickness, BadTurn, NoRod, TooThick, TooThin, Twice, Unlike,
)
from murrine.faces import Faces
from murrine.pictures import face_of, rows_of
from murrine.shop import Shop

HUGE = 10 ** 40
LONGEST = 999999999999999
LONGEST_CUT = 999999999999999999
NO_RODS = (0, -1, 99, HUGE, -HUGE)


class InShop(unittest.TestCase):
    def setUp(self):
        self.faces = Faces()
        self.shop = Shop(self.faces)

    def plain_rods(self, colours, thickness, length):
        """New plain rods, one for each figure."""
        return [self.shop.gather(int(colour), thickness, length) for colour in colours]

    def picture_rod(self, colours, thickness, length):
        """A new rod that shows four colours as quarters."""
        return self.shop.bundle(*self.plain_rods(colours, thickness - 1, length))

    def refused(self, refusal, calls):
        """Each call is refused so and changes nothing, what can be taken back or done again included."""
        before = stand(self.shop)
        for at, call in enumerate(calls):
            with self.subTest(at):
                with self.assertRaises(refusal):
                    call()
                self.assertEqual(stand(self.shop), before)

    def no_rod(self, name, *others):
        """A deed of one rod is refused for each number that no rod has, however good or bad its other number is."""
        gone = self.shop.gather(1, 1, 1)
        self.shop.sell(gone)
        method = getattr(self.shop, name)
        self.refused(NoRod, [lambda rod=rod, other=other: method(rod, *other)
                             for rod in (*NO_RODS, gone, self.shop.look()[1]) for other in others])


class TestGather(InShop):
    def test_numbers_rise_from_one_on(self):
        self.assertEqual([self.shop.gather(4, 2, 7) for _ in range(3)], [1, 2, 3])
        self.assertEqual(self.shop.rods(), [1, 2, 3])

    def test_the_rod_is_plain(self):
        for colour in range(10):
            rod = self.shop.gather(colour, 5, 8)
            self.assertEqual(self.shop.rod(rod), (self.faces.plain(colour), 5, 8))

    def test_edges(self):
        for colour, thickness, length in [(0, 0, 1), (9, 12, LONGEST), (0, 12, 1), (9, 0, LONGEST)]:
            rod = self.shop.gather(colour, thickness, length)
            self.assertEqual(self.shop.rod(rod), (self.faces.plain(colour), thickness, length))

    def test_bad_colour_comes_first(self):
        self.refused(BadColour, [
            lambda colour=colour, thickness=thickness, length=length: self.shop.gather(colour, thickness, length)
            for colour in (-1, 10, HUGE, -HUGE) for thickness in (0, 12, -1, 13) for length in (1, 0, LONGEST + 1)
        ])

    def test_bad_thickness_comes_second(self):
        self.refused(BadThickness, [
            lambda thickness=thickness, length=length: self.shop.gather(9, thickness, length)
            for thickness in (-1, 13, HUGE, -HUGE) for length in (1, 0, -1, LONGEST + 1)
        ])

    def test_bad_length(self):
        self.refused(BadLength, [
            lambda length=length: self.shop.gather(0, 12, length) for length in (0, -1, LONGEST + 1, HUGE, -HUGE)
        ])

    def test_a_refused_rod_takes_no_number(self):
        self.refused(BadColour, [lambda: self.shop.gather(10, 1, 1)])
        self.assertEqual(self.shop.gather(1, 1, 1), 1)


class TestPull(InShop):
    def test_each_step_makes_it_thinner_and_longer(self):
        rod = self.shop.gather(3, 12, 5)
        self.assertIsNone(self.shop.pull(rod, 1))
        self.assertEqual(self.shop.rod(rod), (self.faces.plain(3), 11, 20))
        self.shop.pull(rod, 2)
        self.assertEqual(self.shop.rod(rod), (self.faces.plain(3), 9, 320))

    def test_down_to_the_depth_of_a_plain_face(self):
        rod = self.shop.gather(3, 12, LONGEST)
        self.shop.pull(rod, 12)
        self.assertEqual(self.shop.rod(rod), (self.faces.plain(3), 0, LONGEST * 4 ** 12))
        self.refused(TooThin, [lambda: self.shop.pull(rod, 1)])

    def test_down_to_the_depth_of_a_picture(self):
        rod = self.picture_rod("1234", 5, 2)
        face = self.shop.rod(rod)[0]
        self.refused(TooThin, [lambda steps=steps: self.shop.pull(rod, steps) for steps in (5, 6, 13, HUGE)])
        self.shop.pull(rod, 4)
        self.assertEqual(self.shop.rod(rod), (face, 1, 2 * 4 ** 4))
        self.refused(TooThin, [lambda: self.shop.pull(rod, 1)])

    def test_bad_steps_come_ahead_of_too_thin(self):
        rod = self.picture_rod("1234", 3, 1)
        thin = self.shop.gather(1, 0, 1)
        self.refused(BadSteps, [lambda one=one, steps=steps: self.shop.pull(one, steps)
                                for one in (rod, thin) for steps in (0, -1, -12, -HUGE)])

    def test_no_rod_comes_first(self):
        self.no_rod("pull", (1,), (0,), (-HUGE,), (HUGE,))


class TestBundle(InShop):
    def test_faces_become_quarters(self):
        four = self.plain_rods("1234", 2, 9)
        rod = self.shop.bundle(*four)
        self.assertEqual(rod, 5)
        self.assertEqual(self.shop.rod(rod), (face_of(self.faces, ["12", "34"]), 3, 9))
        self.assertEqual(self.shop.rods(), [5])

    def test_the_order_of_the_rods_is_that_of_the_quarters(self):
        one, two, three, four = self.plain_rods("1234", 0, 1)
        rod = self.shop.bundle(three, one, four, two)
        self.assertEqual(rows_of(self.faces, self.shop.rod(rod)[0], 1), ["31", "42"])

    def test_quarters_of_unlike_depth(self):
        self.shop.bundle(self.picture_rod("1234", 1, 6), *self.plain_rods("567", 1, 6))
        rod = self.shop.rods()[0]
        self.assertEqual(self.shop.rod(rod), (face_of(self.faces, ["1255", "3455", "6677", "6677"]), 2, 6))

    def test_four_of_one_colour_make_a_plain_rod(self):
        rod = self.shop.bundle(*self.plain_rods("7777", 4, 3))
        self.assertEqual(self.shop.rod(rod), (self.faces.plain(7), 5, 3))
        self.assertEqual(self.shop.bundled(), [self.faces.plain(7)])

    def test_up_to_thickness_twelve(self):
        rod = self.picture_rod("1234", 12, LONGEST)
        self.assertEqual(self.shop.rod(rod), (face_of(self.faces, ["12", "34"]), 12, LONGEST))
        self.refused(TooThick, [lambda: self.shop.bundle(*four) for four in [self.plain_rods("1234", 12, 1)]])

    def test_too_thick(self):
        four = self.plain_rods("1111", 12, 4)
        self.refused(TooThick, [lambda: self.shop.bundle(*four)])

    def test_unlike_thickness_or_length(self):
        four = self.plain_rods("1234", 3, 4)
        thicker, longer, other = self.shop.gather(1, 4, 4), self.shop.gather(1, 3, 5), self.shop.gather(1, 2, 16)
        calls = []
        for place in range(4):
            for rod in (thicker, longer, other):
                rods = list(four)
                rods[place] = rod
                calls.append(lambda rods=rods: self.shop.bundle(*rods))
        self.refused(Unlike, calls)

    def test_unlike_comes_ahead_of_too_thick(self):
        four = self.plain_rods("1234", 12, 4)
        longer, thinner = self.shop.gather(1, 12, 5), self.shop.gather(1, 11, 4)
        self.refused(Unlike, [
            lambda: self.shop.bundle(*four[:3], longer), lambda: self.shop.bundle(longer, *four[:3]),
            lambda: self.shop.bundle(*four[:3], thinner), lambda: self.shop.bundle(thinner, *four[:3]),
        ])

    def test_twice_comes_ahead_of_unlike_and_too_thick(self):
        a, b, c = self.plain_rods("123", 12, 4)
        longer, thinner = self.shop.gather(1, 12, 5), self.shop.gather(1, 3, 4)
        self.refused(Twice, [
            lambda four=four: self.shop.bundle(*four)
            for four in [(a, a, b, c), (a, b, a, c), (a, b, c, a), (b, a, a, c), (b, a, c, a), (b, c, a, a),
                         (a, a, a, a), (a, a, longer, c), (thinner, a, thinner, longer), (longer, longer, a, thinner)]
        ])

    def test_no_rod_comes_first_for_each_of_the_four(self):
        four = self.plain_rods("1234", 12, 4)
        gone, longer = self.shop.gather(1, 12, 4), self.shop.gather(1, 11, 5)
        self.shop.waste(gone)
        calls = []
        for number in (*NO_RODS, gone):
            for place in range(4):
                for rods in (four, [four[0]] * 4, [longer, *four[1:]], [four[0], longer, longer, four[3]]):
                    rods = list(rods)
                    rods[place] = number
                    calls.append(lambda rods=rods: self.shop.bundle(*rods))
            calls.append(lambda number=number: self.shop.bundle(number, number, number, number))
        self.refused(NoRod, calls)

    def test_the_four_are_there_no_more(self):
        four = self.plain_rods("1234", 1, 1)
        self.shop.bundle(*four)
        self.refused(NoRod, [lambda rod=rod: self.shop.sell(rod) for rod in four])
        self.assertEqual(self.shop.gather(1, 1, 1), 6)


class TestTurn(InShop):
    def test_all_turnings(self):
        rows = ["12", "34"]
        for turning in range(8):
            rod = self.picture_rod("1234", 2, 3)
            self.assertIsNone(self.shop.turn(rod, turning))
            shown = ["".join(row) for row in turned_rows(rows, turning)]
            self.assertEqual(self.shop.rod(rod), (face_of(self.faces, shown), 2, 3))

    def test_a_turn_of_nothing_is_a_deed(self):
        rod = self.shop.gather(1, 1, 1)
        self.shop.turn(rod, 0)
        self.shop.turn(rod, 7)
        self.assertEqual(self.shop.deeds()[1:], [("turn", rod, 0), ("turn", rod, 7)])

    def test_turns_of_turned_rods(self):
        rod = self.picture_rod("1234", 1, 1)
        face = self.shop.rod(rod)[0]
        for turning in (1, 4, 3, 6):
            face = self.faces.turned(face, turning)
            self.shop.turn(rod, turning)
            self.assertEqual(self.shop.rod(rod)[0], face)

    def test_bad_turn(self):
        rods = [self.picture_rod("1234", 1, 1), self.shop.gather(5, 0, 1)]
        self.refused(BadTurn, [lambda rod=rod, turning=turning: self.shop.turn(rod, turning)
                               for rod in rods for turning in (-1, 8, -8, HUGE, -HUGE)])

    def test_no_rod_comes_first(self):
        self.no_rod("turn", (0,), (-1,), (8,))


class TestCut(InShop):
    def test_it_keeps_the_length_and_the_rest_is_new(self):
        rod = self.picture_rod("1234", 2, 10)
        face = self.shop.rod(rod)[0]
        self.assertEqual(self.shop.cut(rod, 3), 6)
        self.assertEqual((self.shop.rod(rod), self.shop.rod(6)), ((face, 2, 3), (face, 2, 7)))

    def test_edges(self):
        rod = self.shop.gather(1, 0, 10)
        self.refused(BadLength, [lambda length=length: self.shop.cut(rod, length)
                                 for length in (0, -1, 10, 11, HUGE, -HUGE)])
        rest = self.shop.cut(rod, 1)
        self.assertEqual((self.shop.rod(rod)[2], self.shop.rod(rest)[2]), (1, 9))
        last = self.shop.cut(rest, 8)
        self.assertEqual((self.shop.rod(rest)[2], self.shop.rod(last)[2]), (8, 1))
        self.refused(BadLength, [lambda: self.shop.cut(rod, 1), lambda: self.shop.cut(last, 1)])

    def test_the_longest_cut(self):
        rod = self.shop.gather(1, 12, LONGEST)
        self.shop.pull(rod, 12)
        whole = self.shop.rod(rod)[2]
        self.assertGreater(whole, LONGEST_CUT + 2)
        self.refused(BadLength, [lambda length=length: self.shop.cut(rod, length)
                                 for length in (LONGEST_CUT + 1, whole - 1, whole)])
        rest = self.shop.cut(rod, LONGEST_CUT)
        self.assertEqual((self.shop.rod(rod)[2], self.shop.rod(rest)[2]), (LONGEST_CUT, whole - LONGEST_CUT))

    def test_no_rod_comes_first(self):
        self.no_rod("cut", (1,), (0,), (LONGEST_CUT + 1,))


class TestFuse(InShop):
    def test_two_become_the_first(self):
        one, other = self.shop.gather(1, 3, 4), self.shop.gather(1, 3, 9)
        self.assertIsNone(self.shop.fuse(other, one))
        self.assertEqual(self.shop.rods(), [other])
        self.assertEqual(self.shop.rod(other), (self.faces.plain(1), 3, 13))
        self.assertEqual(self.shop.gather(1, 3, 4), 3)

    def test_beyond_all_lengths(self):
        rods = self.plain_rods("11", 12, LONGEST)
        for rod in rods:
            self.shop.pull(rod, 12)
        self.shop.fuse(*rods)
        self.assertEqual(self.shop.rod(rods[0])[2], 2 * LONGEST * 4 ** 12)

    def test_unlike_face_or_thickness(self):
        rod, turned = self.picture_rod("1234", 2, 4), self.picture_rod("1234", 2, 4)
        self.shop.turn(turned, 1)
        other, thicker = self.picture_rod("1243", 2, 4), self.picture_rod("1234", 3, 4)
        plain, thin = self.shop.gather(1, 2, 4), self.shop.gather(1, 1, 4)
        pairs = [(rod, turned), (rod, other), (rod, thicker), (rod, plain), (plain, thin)]
        self.refused(Unlike, [lambda pair=pair: self.shop.fuse(*pair)
                              for one, two in pairs for pair in ((one, two), (two, one))])
        self.shop.turn(turned, 3)
        self.shop.fuse(rod, turned)
        self.assertEqual(self.shop.rod(rod)[2], 8)

    def test_twice(self):
        rod = self.shop.gather(1, 1, 4)
        self.refused(Twice, [lambda: self.shop.fuse(rod, rod)])

    def test_no_rod_comes_first_for_both(self):
        rod, gone = self.shop.gather(1, 1, 4), self.shop.gather(1, 1, 4)
        self.shop.fuse(rod, gone)
        calls = []
        for number in (*NO_RODS, gone):
            calls.append(lambda number=number: self.shop.fuse(rod, number))
            calls.append(lambda number=number: self.shop.fuse(number, rod))
            calls.append(lambda number=number: self.shop.fuse(number, number))
        self.refused(NoRod, calls)


class TestSellAndWaste(InShop):
    def test_it_is_there_no_more(self):
        one, other, kept = self.plain_rods("123", 1, 5)
        self.assertIsNone(self.shop.sell(one))
        self.assertIsNone(self.shop.waste(other))
        self.assertEqual(self.shop.rods(), [kept])
        self.refused(NoRod, [lambda rod=rod, name=name: getattr(self.shop, name)(rod)
                             for rod in (one, other) for name in ("sell", "waste")])
        self.assertEqual(self.shop.gather(1, 1, 1), 4)

    def test_no_rod(self):
        self.no_rod("sell", ())
        self.no_rod("waste", ())


class TestNumbers(InShop):
    def test_only_three_deeds_give_numbers(self):
        four = self.plain_rods("1111", 1, 8)
        answers = done_all(self.shop, [
            ("bundle", *four), ("pull", 5, 1), ("turn", 5, 3), ("cut", 5, 2), ("fuse", 5, 6), ("cut", 5, 31),
            ("sell", 5), ("waste", 7), ("gather", 9, 9, 9),
        ])
        self.assertEqual(answers, [5, None, None, 6, None, 7, None, None, 8])


if __name__ == "__main__":
    unittest.main()
