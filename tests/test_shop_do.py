"""Points 10 and 13: a shop does the deed that a tuple tells."""

import unittest

from glazing import done_all, stand
from murrine.deeds import NUMBERS, RODS
from murrine.errors import (
    BadColour, BadDeed, BadLength, BadSteps, BadThickness, BadTurn, GlassError, NoRod, TooThick, TooThin, Twice, Unlike,
)
from murrine.faces import Faces
from murrine.shop import Shop

GREATEST = 999999999999999999

DEEDS = [
    ("gather", 1, 2, 8), ("gather", 2, 2, 8), ("gather", 3, 2, 8), ("gather", 4, 2, 8), ("bundle", 4, 1, 3, 2),
    ("pull", 5, 2), ("turn", 5, 6), ("cut", 5, 100), ("fuse", 6, 5), ("cut", 6, 1), ("sell", 6), ("waste", 7),
]
ANSWERS = [1, 2, 3, 4, 5, None, None, 6, None, 7, None, None]

# The last three are rods: 1 and 2 are alike, 3 is longer, 4 is thinner; 5 is there no more.
FIRST = [("gather", 1, 12, 4), ("gather", 1, 12, 4), ("gather", 1, 12, 5), ("gather", 1, 0, 4), ("gather", 1, 0, 4),
         ("gather", 1, 12, 4), ("gather", 1, 12, 4), ("sell", 5)]

REFUSED = [
    (BadColour, [("gather", 10, 0, 1), ("gather", GREATEST, 13, 0)]),
    (BadThickness, [("gather", 0, 13, 1), ("gather", 9, GREATEST, 0)]),
    (BadLength, [("gather", 0, 0, 0), ("gather", 9, 12, 1000000000000000), ("cut", 1, 0), ("cut", 1, 4),
                 ("cut", 1, GREATEST)]),
    (BadSteps, [("pull", 1, 0), ("pull", 4, 0)]),
    (TooThin, [("pull", 4, 1), ("pull", 1, 13), ("pull", 1, GREATEST)]),
    (Twice, [("bundle", 1, 2, 3, 1), ("fuse", 1, 1)]),
    (Unlike, [("bundle", 1, 2, 3, 6), ("bundle", 1, 2, 4, 6), ("fuse", 1, 4)]),
    (TooThick, [("bundle", 1, 2, 6, 7)]),
    (BadTurn, [("turn", 1, 8), ("turn", 1, GREATEST)]),
    (NoRod, [("pull", 0, 0), ("bundle", 1, 1, 1, 5), ("turn", 5, 8), ("cut", 5, 0), ("fuse", 5, 5), ("fuse", 1, 0),
             ("sell", GREATEST), ("waste", 5)]),
]

NO_DEEDS = [
    (), ("melt", 1), ("rod", 1), ("undo",), ("look",), ("store",), ("do", 1), ("record", 1), ("",), (1,), (1, 2, 3),
    ("gather", 1, 1), ("gather", 1, 1, 1, 1), ("gather",), ("pull", 1), ("pull", 1, 1, 1), ("bundle", 1, 2, 6),
    ("bundle", 1, 2, 6, 7, 8), ("turn", 1), ("turn", 1, 1, 1), ("cut", 1), ("cut", 1, 1, 1), ("fuse", 1),
    ("fuse", 1, 2, 3), ("sell",), ("sell", 1, 2), ("waste",), ("waste", 1, 2), ("gather", -1, 1, 1),
    ("gather", 1, -1, 1), ("gather", 1, 1, -1), ("gather", 1, 1, GREATEST + 1), ("pull", -1, 1), ("pull", 1, -1),
    ("pull", GREATEST + 1, 0), ("turn", 1, -1), ("turn", 1, GREATEST + 1), ("cut", 1, -1), ("cut", 5, GREATEST + 1),
    ("fuse", 1, -2), ("sell", -1), ("sell", GREATEST + 1), ("waste", 10 ** 40), ("sell", "1"), ("pull", 1, "1"),
    ("bundle", 1, 2, "6", 7), ("Sell", 1), ("sell ", 1), (1, "sell"), ("sell", "sell"),
]


class TestDo(unittest.TestCase):
    def setUp(self):
        self.shop = Shop(Faces())

    def test_answers(self):
        self.assertEqual(done_all(self.shop, DEEDS), ANSWERS)

    def test_it_is_what_the_method_does(self):
        other = Shop(self.shop.store())
        for deed in DEEDS:
            self.assertEqual(self.shop.do(deed), getattr(other, deed[0])(*deed[1:]))
            self.assertEqual(self.shop.look(), other.look())
        self.assertEqual(stand(self.shop), stand(other))

    def test_deeds_told_are_those_that_were_done_either_way(self):
        for at, deed in enumerate(DEEDS):
            if at % 2:
                self.shop.do(deed)
            else:
                getattr(self.shop, deed[0])(*deed[1:])
        self.assertEqual(self.shop.deeds(), DEEDS)

    def test_refusals(self):
        done_all(self.shop, FIRST)
        self.shop.waste(4)
        self.shop.undo()
        before = stand(self.shop)
        for refusal, deeds in REFUSED:
            for deed in deeds:
                with self.subTest(deed):
                    with self.assertRaises(refusal):
                        self.shop.do(deed)
                    self.assertEqual(stand(self.shop), before)

    def test_no_deeds(self):
        done_all(self.shop, FIRST)
        self.shop.waste(4)
        self.shop.undo()
        before = stand(self.shop)
        for deed in NO_DEEDS:
            with self.subTest(deed):
                with self.assertRaises(BadDeed):
                    self.shop.do(deed)
                self.assertEqual(stand(self.shop), before)

    def test_methods_refuse_numbers_beyond_all_deeds_by_their_own_refusals(self):
        done_all(self.shop, FIRST)
        huge = 10 ** 40
        calls = [
            (BadColour, lambda: self.shop.gather(-1, 1, 1)), (BadThickness, lambda: self.shop.gather(1, huge, 1)),
            (BadLength, lambda: self.shop.gather(1, 1, -huge)), (BadSteps, lambda: self.shop.pull(1, -1)),
            (TooThin, lambda: self.shop.pull(1, huge)), (BadTurn, lambda: self.shop.turn(1, -huge)),
            (BadLength, lambda: self.shop.cut(1, GREATEST + 1)), (NoRod, lambda: self.shop.sell(-1)),
            (NoRod, lambda: self.shop.fuse(1, huge)),
        ]
        before = stand(self.shop)
        for at, (refusal, call) in enumerate(calls):
            with self.subTest(at):
                with self.assertRaises(refusal):
                    call()
                self.assertEqual(stand(self.shop), before)

    def test_which_numbers_of_a_deed_are_rods(self):
        done_all(self.shop, FIRST)
        rods = {name: 0 for name in NUMBERS}
        for name in NUMBERS:
            for place in range(NUMBERS[name]):
                deed = [name] + [1] * NUMBERS[name]
                deed[1 + place] = GREATEST
                try:
                    self.shop.do(tuple(deed))
                except GlassError as refusal:
                    if isinstance(refusal, NoRod):
                        # Rods stand ahead of all other numbers.
                        self.assertEqual(rods[name], place)
                        rods[name] += 1
        self.assertEqual(rods, RODS)

    def test_the_greatest_cut(self):
        done_all(self.shop, [("gather", 1, 12, 999999999999999), ("pull", 1, 12), ("cut", 1, GREATEST)])
        self.assertEqual(self.shop.rod(1)[2], GREATEST)


if __name__ == "__main__":
    unittest.main()
