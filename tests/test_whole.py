"""Points 1, 2, 3, 5, 8, 11, 12, 14 and 16 over the whole program."""

import random
import unittest

from drawing import at_once, deep_pair, rows_by_cells, rows_by_quarters, turned_rows
from glazing import done_all, least_rows, stand, wide_rows
from murrine.errors import GlassError
from murrine.faces import Faces
from murrine.needs import needed, part_kinds
from murrine.orders import Order
from murrine.pages import page, read_page
from murrine.pictures import face_of, rows_of
from murrine.plans import plan
from murrine.shop import Shop
from planning import kind_of


def shown(faces, face):
    """The rows of a face at its own depth."""
    return rows_by_quarters(faces, face, faces.depth(face))


def pictures_of(deeds):
    """By number, the rows that each rod shows by the deeds alone."""
    rods, coming = {}, 1
    for name, *numbers in deeds:
        if name == "gather":
            rods[coming] = [[numbers[0]]]
        if name == "turn":
            rods[numbers[0]] = turned_rows(rods[numbers[0]], numbers[1])
        if name == "bundle":
            four = [rods.pop(number) for number in numbers]
            size = max(len(rows) for rows in four)
            a, b, c, d = [wide_rows(rows, size) for rows in four]
            rods[coming] = [one + other for one, other in zip(a + c, b + d)]
        if name == "cut":
            rods[coming] = rods[numbers[0]]
        if name in ("fuse", "sell", "waste"):
            del rods[numbers[-1]]
        if name in ("gather", "bundle", "cut"):
            coming += 1
    return {number: least_rows(rods[number]) for number in rods}


def some_picture(chance, faces, most):
    """A picture whose parts stand in it more than once, turned."""
    met = [faces.plain(colour) for colour in (0, 1, 9)]
    for _ in range(most):
        four = [faces.turned(chance.choice(met[-4:]), chance.randrange(8)) for _ in range(4)]
        met.append(faces.four(*four))
    return met[-1]


class TestWorkday(unittest.TestCase):
    """A shop in which orders are done by turns, rods are sold, wasted and used up, and deeds are taken back."""

    def setUp(self):
        self.faces = Faces()
        self.shop = Shop(self.faces)

    def workday(self, chance):
        wished = []
        for _ in range(6):
            orders = []
            for _ in range(2):
                face = some_picture(chance, self.faces, 3)
                thickness = self.faces.depth(face) + chance.randrange(3)
                free = [rod for rod in self.shop.rods() if rod not in wished]
                use = chance.sample(free, min(3, len(free))) if not orders else []
                try:
                    orders.append(Order(self.shop, face, thickness, chance.randrange(1, 9), use))
                except GlassError:
                    orders.append(Order(self.shop, face, thickness, chance.randrange(1, 9), []))
            while any(order.left() for order in orders):
                chance.choice([order for order in orders if order.left()]).step()
                self.check_shop()
            wished += [order.wish() for order in orders]
            self.shop.sell(wished.pop(0))
            if chance.random() < 0.5:
                self.shop.waste(chance.choice(self.shop.rods()))
                self.shop.undo()
        return wished

    def check_shop(self):
        rods, coming, glass, bundled = self.shop.look()
        kinds = {kind_of(self.faces, face) for face in bundled}
        held = [0] * 10
        for number, face, thickness, length in rods:
            self.assertGreaterEqual(thickness, self.faces.depth(face))
            self.assertLessEqual(set(part_kinds(self.faces, face)), kinds)
            for colour, cells in enumerate(self.faces.counts(face, thickness)):
                held[colour] += cells * length
        self.assertEqual([told[1] for told in glass], held)
        for gathered, mine, sold, wasted in glass:
            self.assertEqual(gathered, mine + sold + wasted)

    def test_each_rod_shows_what_its_deeds_made(self):
        for seed in range(8):
            self.setUp()
            with self.subTest(seed):
                self.workday(random.Random(seed))
                pictures = pictures_of(self.shop.deeds())
                self.assertEqual(sorted(pictures), self.shop.rods())
                for number in pictures:
                    self.assertEqual(pictures[number], shown(self.faces, self.shop.rod(number)[0]))

    def test_a_workday_taken_back_and_done_again(self):
        self.workday(random.Random(20))
        before, text = stand(self.shop), page(self.shop)
        many = len(self.shop.deeds())
        for _ in range(many):
            self.shop.undo()
        self.assertEqual(self.shop.look(), Shop(self.faces).look())
        for _ in range(many):
            self.shop.redo()
        self.assertEqual(stand(self.shop), before)
        self.assertEqual(stand(read_page(self.faces, text)), before[:3] + ([],))

    def test_a_workday_by_its_page_in_another_store(self):
        self.workday(random.Random(21))
        faces = Faces()
        # Another store may number the same pictures otherwise.
        face_of(faces, ["98", "76"])
        other = read_page(faces, page(self.shop))
        self.assertEqual(other.rods(), self.shop.rods())
        for number in self.shop.rods():
            mine, theirs = self.shop.rod(number), other.rod(number)
            self.assertEqual(mine[1:], theirs[1:])
            self.assertEqual(shown(self.faces, mine[0]), shown(faces, theirs[0]))
        self.assertEqual(other.glass(), self.shop.glass())


class TestWishes(unittest.TestCase):
    def setUp(self):
        self.faces = Faces()
        self.shop = Shop(self.faces)

    def test_a_wished_small_picture_is_shown(self):
        rows = ["1234", "4321", "1122", "9999"]
        face = face_of(self.faces, rows)
        deeds, number = plan(self.shop, face, 2, 3, [])
        done_all(self.shop, deeds)
        self.assertEqual(rows_of(self.faces, self.shop.rod(number)[0], 2), rows)
        self.assertEqual(rows_by_cells(self.faces, face, 2), [[int(cell) for cell in row] for row in rows])
        self.assertEqual(pictures_of(self.shop.deeds())[number], shown(self.faces, face))

    def test_fewest_bundlings(self):
        for seed in range(30):
            face = some_picture(random.Random(seed), self.faces, 5)
            deeds = plan(self.shop, face, 12, 10, [])[0]
            bundlings = [deed for deed in deeds if deed[0] == "bundle"]
            # Fewer bundlings cannot do: each kind of the parts must have been bundled once.
            self.assertEqual(len(bundlings), len({kind_of(self.faces, part) for part in self.parts(face)}))

    def parts(self, face):
        """All parts of a picture by the words of point 7."""
        if self.faces.colour(face) is not None:
            return []
        return [face] + [part for quarter in self.faces.quarters(face) for part in self.parts(quarter)]

    def test_bundlings_beside_rods(self):
        for seed in range(30):
            chance = random.Random(seed)
            shop = Shop(self.faces)
            face = some_picture(chance, self.faces, 5)
            part = chance.choice(self.parts(face) or [face])
            deeds, number = plan(shop, self.faces.turned(part, chance.randrange(8)), 12, 4, [])
            done_all(shop, deeds)
            thickness = self.faces.depth(face)
            deeds = plan(shop, face, thickness, 1, [number])[0]
            bundlings = [deed for deed in deeds if deed[0] == "bundle"]
            self.assertEqual(len(bundlings), len(needed(self.faces, face, [part])))

    def test_deep_pictures_at_once(self):
        one = deep_pair(self.faces, 12)[0]
        deeds, number = at_once(lambda: plan(self.shop, one, 12, 1000000, []))
        at_once(lambda: done_all(self.shop, deeds))
        told = at_once(self.shop.look)
        self.assertIn((number, one, 12, 1000000), told[0])
        text = at_once(lambda: page(self.shop))
        self.assertEqual(at_once(lambda: read_page(self.faces, text)).look(), told)
        order = at_once(lambda: Order(self.shop, self.faces.turned(one, 5), 12, 1000000, [number]))
        while order.left():
            at_once(order.step)
        self.assertEqual(self.shop.rod(order.wish()), (self.faces.turned(one, 5), 12, 1000000))
        at_once(self.shop.undo)
        at_once(self.shop.redo)


if __name__ == "__main__":
    unittest.main()
