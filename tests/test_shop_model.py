"""Points 9 to 12 over long rows of deeds, good and wrong ones, against a model that keeps all cells."""

import random
import unittest

from glazing import Model, Refused, look_with_rows
from murrine import errors
from murrine.deeds import NUMBERS
from murrine.faces import Faces
from murrine.shop import Shop

HUGE = 10 ** 30


def some_rod(chance, shop):
    """A rod that is there, mostly."""
    if chance.random() < 0.06 or not shop.rods():
        return chance.choice([0, -1, shop.look()[1], chance.randrange(1, 60), HUGE])
    return chance.choice(shop.rods())


def like_rods(chance, shop):
    """Four rods of one thickness and length, where the shop has such ones."""
    groups = {}
    for number in shop.rods():
        groups.setdefault(shop.rod(number)[1:], []).append(number)
    good = [group for group in groups.values() if len(group) >= 4]
    if not good or chance.random() < 0.05:
        return [some_rod(chance, shop) for _ in range(4)]
    return chance.sample(max(good, key=lambda group: shop.rod(group[0])[1]), 4)


def like_pair(chance, shop):
    """Two rods of one face and thickness, where the shop has such ones."""
    groups = {}
    for number in shop.rods():
        groups.setdefault(shop.rod(number)[:2], []).append(number)
    good = [group for group in groups.values() if len(group) >= 2]
    if not good or chance.random() < 0.1:
        return [some_rod(chance, shop), some_rod(chance, shop)]
    return chance.sample(chance.choice(good), 2)


def some_deed(chance, shop):
    """A deed, mostly a good one; depths stay small as the model keeps all cells."""
    name = chance.choice(["gather"] * 5 + ["bundle"] * 9 + ["cut"] * 9 + ["turn"] * 4
                         + ["fuse", "pull", "sell", "waste"])
    if name == "gather":
        colour, thickness, length = chance.choice([0, 1, 2, 9]), chance.choice([0] * 20 + [8]), 64
        if chance.random() < 0.1:
            return (name, chance.choice([colour, -1, 10]), chance.choice([thickness, -1, 12, 13]),
                    chance.choice([length, 0, 999999999999999, 1000000000000000]))
        return (name, colour, thickness, length)
    if name == "bundle":
        return (name, *like_rods(chance, shop))
    if name == "fuse":
        return (name, *like_pair(chance, shop))
    if name == "pull":
        return (name, some_rod(chance, shop), chance.choice([0, 1, 1, 1, 2, 12, 13, -1]))
    if name == "turn":
        return (name, some_rod(chance, shop), chance.choice(list(range(-1, 9))))
    if name == "cut":
        if chance.random() < 0.2 or not shop.rods():
            return (name, some_rod(chance, shop), chance.choice([0, 1, 2, 3, 16, 64, HUGE]))
        # The thickest rods are cut by halves, so that there are rods of one length to be bundled to deeper ones.
        number = max(shop.rods(), key=lambda one: shop.rod(one)[1:])
        return (name, number, shop.rod(number)[2] // 2)
    return (name, some_rod(chance, shop))


def small(shop):
    """Whether all pictures of the shop are small enough for the model."""
    return all(shop.store().depth(shop.rod(number)[0]) <= 4 for number in shop.rods())


class TestAgainstTheModel(unittest.TestCase):
    def both(self, call, modelled):
        """Both answer alike, or refuse alike."""
        try:
            answer = modelled()
        except Refused as told:
            with self.assertRaises(getattr(errors, str(told))):
                call()
            return None
        self.assertEqual(call(), answer)
        return answer

    def step(self, chance, shop, model):
        """One deed, done by its method, or one taken back or done again."""
        way = chance.random()
        if way < 0.12:
            self.both(shop.undo, model.undo)
        elif way < 0.2:
            self.both(shop.redo, model.redo)
        else:
            deed = some_deed(chance, shop)
            self.both(lambda: getattr(shop, deed[0])(*deed[1:]), lambda: model.do(deed))
            if not small(shop):
                shop.undo()
                model.undo()
        self.assertEqual(look_with_rows(shop), model.look())

    def test_long_rows_of_deeds(self):
        names, depths = set(), set()
        for seed in range(12):
            chance = random.Random(seed)
            shop, model = Shop(Faces()), Model()
            with self.subTest(seed):
                for _ in range(150):
                    self.step(chance, shop, model)
            names.update(deed[0] for deed in shop.deeds())
            depths.update(shop.store().depth(face) for face in shop.bundled())
        # The rows are worth something only where they do all deeds and make deep pictures.
        self.assertEqual(names, set(NUMBERS))
        self.assertLessEqual({0, 1, 2, 3}, depths)


if __name__ == "__main__":
    unittest.main()
