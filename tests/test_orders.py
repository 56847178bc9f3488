"""Point 17: orders, and point 16 for their steps."""

import random
import unittest

from drawing import deep_pair
from glazing import done_all, stand
from murrine.errors import (
    BadLength, BadThickness, GlassError, NoFace, NoRod, NothingLeft, Short, TooThin, Twice, Unlike,
)
from murrine.faces import Faces
from murrine.orders import Order
from murrine.pages import page, read_page
from murrine.pictures import face_of
from murrine.plans import plan
from murrine.shop import Shop

HUGE = 10 ** 40


class Ordering(unittest.TestCase):
    def setUp(self):
        self.faces = Faces()
        self.shop = Shop(self.faces)
        self.small = face_of(self.faces, ["12", "34"])
        plain = self.faces.plain(5)
        middle = self.faces.four(self.small, plain, plain, self.faces.turned(self.small, 6))
        self.face = self.faces.four(middle, self.faces.turned(self.small, 1), self.faces.turned(middle, 5), plain)

    def made(self, face, thickness, length):
        """A new rod of that face in the shop."""
        deeds, number = plan(self.shop, face, thickness, length, [])
        done_all(self.shop, deeds)
        return number

    def finish(self, order):
        """Does all steps that are left, and gives the deeds that were done."""
        return [order.step() for _ in range(order.left())]

    def check_done(self, order, told):
        """No step is left, and the wished rod is as wished."""
        self.assertEqual(order.left(), 0)
        self.assertEqual(self.shop.rod(order.wish()), told)
        before, wished = stand(self.shop), order.wish()
        with self.assertRaises(NothingLeft):
            order.step()
        self.assertEqual((stand(self.shop), order.left(), order.wish()), (before, 0, wished))


class TestAlone(Ordering):
    def test_the_steps_are_the_plans_deeds(self):
        deeds, number = plan(self.shop, self.face, 3, 5, [])
        before = stand(self.shop)
        order = Order(self.shop, self.face, 3, 5, [])
        self.assertEqual(stand(self.shop), before)
        self.assertEqual(order.left(), len(deeds))
        self.assertEqual(self.finish(order), deeds)
        self.assertEqual(order.wish(), number)
        self.assertEqual(self.shop.deeds(), deeds)
        self.check_done(order, (self.face, 3, 5))

    def test_each_step(self):
        order = Order(self.shop, self.face, 4, 3, [])
        many = order.left()
        for left in range(many, 0, -1):
            self.assertEqual(order.left(), left)
            self.assertIsNone(order.wish())
            deed = order.step()
            self.assertIsInstance(deed, tuple)
            self.assertEqual(self.shop.deeds()[-1], deed)
            self.assertEqual(len(self.shop.deeds()), many - left + 1)
        self.check_done(order, (self.face, 4, 3))

    def test_a_plain_wish(self):
        order = Order(self.shop, self.faces.plain(0), 12, 1000000, [])
        self.assertEqual(self.finish(order), [("gather", 0, 12, 1000000)])
        self.check_done(order, (self.faces.plain(0), 12, 1000000))

    def test_a_rod_that_is_as_wished_already(self):
        rod = self.made(self.small, 2, 3)
        order = Order(self.shop, self.small, 2, 3, [rod])
        self.finish(order)
        self.check_done(order, (self.small, 2, 3))

    def test_rods_to_be_used(self):
        rods = [self.made(self.small, 3, 9), self.made(self.faces.turned(self.small, 3), 2, 50)]
        kept = self.made(self.small, 3, 9)
        bundled = len(self.shop.bundled())
        order = Order(self.shop, self.face, 3, 2, rods)
        self.finish(order)
        self.check_done(order, (self.face, 3, 2))
        self.assertEqual(self.shop.rod(kept), (self.small, 3, 9))
        self.assertEqual(len(self.shop.bundled()), bundled + 2)

    def test_the_list_is_the_callers(self):
        use = [self.made(self.small, 3, 9)]
        order = Order(self.shop, self.face, 3, 2, use)
        self.assertEqual(len(use), 1)
        use.clear()
        use.append(HUGE)
        self.finish(order)
        self.check_done(order, (self.face, 3, 2))

    def test_deep_wishes(self):
        one = deep_pair(self.faces, 12)[0]
        order = Order(self.shop, one, 12, 1000000, [])
        self.finish(order)
        self.check_done(order, (one, 12, 1000000))

    def test_steps_are_deeds_of_the_shop(self):
        self.shop.gather(1, 1, 1)
        self.shop.undo()
        order = Order(self.shop, self.small, 1, 1, [])
        self.shop.redo()
        self.shop.undo()
        order.step()
        with self.assertRaises(NothingLeft):
            self.shop.redo()
        self.finish(order)
        text = page(self.shop)
        self.assertEqual(read_page(self.faces, text).look(), self.shop.look())
        for _ in range(5):
            self.shop.undo()
        self.assertEqual(self.shop.look(), Shop(self.faces).look())


class TestRefusedAsAPlan(Ordering):
    def test_in_the_order_of_a_plan(self):
        rod = self.made(self.small, 1, 1)
        self.shop.gather(1, 1, 1)
        self.shop.undo()
        wishes = [
            (NoFace, (HUGE, 13, 0, [99, 99])), (NoFace, (-1, 1, 1, [])),
            (BadThickness, (self.face, 13, 0, [99])), (BadThickness, (self.face, -1, 0, [99])),
            (TooThin, (self.face, 2, 0, [99])), (BadLength, (self.face, 3, 0, [99])),
            (BadLength, (self.face, 3, 1000001, [rod, rod])), (NoRod, (self.face, 3, 1, [rod, rod, 99])),
            (Twice, (self.small, 12, 1000000, [rod, rod])), (Short, (self.small, 1, 2, [rod])),
            (Short, (self.small, 2, 1, [rod])),
        ]
        before = stand(self.shop)
        for at, (refusal, wish) in enumerate(wishes):
            with self.subTest(at):
                with self.assertRaises(refusal):
                    Order(self.shop, *wish)
                self.assertEqual(stand(self.shop), before)


class TestOthersBetween(Ordering):
    def test_numbers_that_others_took(self):
        order = Order(self.shop, self.face, 3, 5, [])
        others = []
        while order.left():
            others.append(self.shop.gather(9, 9, 9))
            deed = order.step()
            self.assertEqual(self.shop.deeds()[-1], deed)
        self.check_done(order, (self.face, 3, 5))
        for rod in others:
            self.assertEqual(self.shop.rod(rod), (self.faces.plain(9), 9, 9))

    def test_others_work_with_rods_that_have_the_plans_numbers(self):
        rod = self.made(self.small, 3, 9)
        order = Order(self.shop, self.face, 3, 2, [rod])
        for at in range(order.left()):
            one, other = self.shop.gather(9, 4, 8), self.shop.gather(9, 4, 8)
            order.step()
            done_all(self.shop, [("fuse", other, one), ("cut", other, 3), ("turn", other, 2), ("pull", other, 1)])
            self.shop.sell(other)
            order_left = order.left()
            if at % 3 == 0:
                self.shop.waste(self.shop.rods()[-1])
                self.shop.undo()
            self.assertEqual(order.left(), order_left)
        self.check_done(order, (self.face, 3, 2))

    def test_others_take_back_their_own_deeds(self):
        order = Order(self.shop, self.face, 3, 1, [])
        while order.left():
            self.shop.gather(9, 9, 9)
            self.shop.gather(8, 8, 8)
            self.shop.undo()
            order.step()
            self.shop.gather(7, 7, 7)
            self.shop.undo()
        self.check_done(order, (self.face, 3, 1))

    def test_an_order_done_in_a_twin_of_the_state_is_the_same(self):
        order = Order(self.shop, self.face, 3, 1, [])
        twin = self.shop.twin()
        twin.gather(1, 1, 1)
        deeds = self.finish(order)
        self.assertEqual(self.shop.deeds(), deeds)
        self.assertEqual(twin.deeds(), [("gather", 1, 1, 1)])

    def test_two_orders_by_turns(self):
        for first, second in [(1, 1), (1, 3), (3, 1), (2, 5)]:
            self.shop = Shop(self.faces)
            one, other = Order(self.shop, self.face, 3, 5, []), Order(self.shop, self.face, 4, 7, [])
            while one.left() or other.left():
                for _ in range(min(first, one.left())):
                    one.step()
                for _ in range(min(second, other.left())):
                    other.step()
            self.check_done(one, (self.face, 3, 5))
            self.check_done(other, (self.face, 4, 7))
            self.assertNotEqual(one.wish(), other.wish())

    def test_two_orders_of_the_same_wish(self):
        one, other = Order(self.shop, self.face, 3, 5, []), Order(self.shop, self.face, 3, 5, [])
        while one.left():
            one.step()
            other.step()
        self.check_done(one, (self.face, 3, 5))
        self.check_done(other, (self.face, 3, 5))
        self.assertEqual(len(self.shop.bundled()), 6)

    def test_many_orders_with_rods_of_their_own(self):
        rods = [self.made(self.small, 3, 9) for _ in range(4)]
        orders = [Order(self.shop, self.face, 3, 2, [rod]) for rod in rods]
        orders.append(Order(self.shop, self.small, 12, 1, []))
        chance = random.Random(5)
        while any(order.left() for order in orders):
            chance.choice([order for order in orders if order.left()]).step()
        for order in orders[:4]:
            self.check_done(order, (self.face, 3, 2))
        self.check_done(orders[4], (self.small, 12, 1))
        self.assertEqual(len({order.wish() for order in orders}), 5)

    def test_an_order_that_uses_what_another_made(self):
        one = Order(self.shop, self.small, 3, 9, [])
        other = Order(self.shop, self.faces.plain(1), 1, 1, [])
        other.step()
        self.finish(one)
        last = Order(self.shop, self.face, 3, 2, [one.wish()])
        self.shop.gather(9, 9, 9)
        self.finish(last)
        self.check_done(last, (self.face, 3, 2))
        with self.assertRaises(GlassError):
            Order(self.shop, self.face, 3, 3, [last.wish()])


class TestRefusedSteps(Ordering):
    def refused(self, order, refusal):
        """The next step is refused and changes nothing, each time that it is tried."""
        before, left = stand(self.shop), order.left()
        for _ in range(3):
            with self.assertRaises(refusal):
                order.step()
            self.assertEqual((stand(self.shop), order.left(), order.wish()), (before, left, None))

    def test_a_rod_that_is_no_more_and_comes_back(self):
        rod = self.made(self.small, 3, 9)
        order = Order(self.shop, self.face, 3, 2, [rod])
        self.shop.sell(rod)
        self.refused(order, NoRod)
        self.shop.undo()
        self.finish(order)
        self.check_done(order, (self.face, 3, 2))

    def test_at_each_step_that_needs_a_rod(self):
        many = Order(self.shop, self.face, 3, 2, []).left()
        tried = 0
        for at in range(many):
            self.shop = Shop(self.faces)
            order = Order(self.shop, self.face, 3, 2, [])
            for _ in range(at):
                order.step()
            after = self.shop.twin()
            for rod in self.shop.rods():
                self.shop.sell(rod)
            if self.next_is_refused(order):
                tried += 1
                self.refused(order, NoRod)
                while self.shop.deeds() != after.deeds():
                    self.shop.undo()
                self.finish(order)
                self.check_done(order, (self.face, 3, 2))
        self.assertGreater(tried, 3)

    def next_is_refused(self, order):
        """Whether the next step is refused; a step that is done stays done."""
        try:
            order.step()
        except GlassError:
            return True
        return False

    def test_a_rod_that_was_changed_and_is_changed_back(self):
        order = Order(self.shop, self.small, 2, 3, [])
        while not self.shop.rods()[3:]:
            order.step()
        changed = self.shop.rods()[2]
        self.shop.pull(changed, 1)
        self.refused(order, Unlike)
        self.shop.undo()
        self.finish(order)
        self.check_done(order, (self.small, 2, 3))

    def test_another_refusal_between_steps_does_not_matter(self):
        order = Order(self.shop, self.face, 3, 2, [])
        while order.left():
            with self.assertRaises(NoRod):
                self.shop.sell(999)
            order.step()
        self.check_done(order, (self.face, 3, 2))

    def test_refused_steps_of_two_orders_by_turns(self):
        rods = [self.made(self.small, 3, 9) for _ in range(2)]
        one, other = [Order(self.shop, self.face, 3, 2, [rod]) for rod in rods]
        self.shop.waste(rods[0])
        self.refused(one, NoRod)
        other_left = other.left()
        self.shop.undo()
        other.step()
        self.assertEqual(other.left(), other_left - 1)
        self.finish(one)
        self.finish(other)
        self.check_done(one, (self.face, 3, 2))
        self.check_done(other, (self.face, 3, 2))


if __name__ == "__main__":
    unittest.main()
