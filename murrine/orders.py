"""Orders: a plan that is done in a shop step by step, while others may do deeds between."""

from murrine.deeds import RODS
from murrine.errors import NothingLeft
from murrine.plans import plan


class Order:
    """A plan begun in a shop. Its rods may get other numbers in the shop than the plan has for them."""

    def __init__(self, shop, face, thickness, length, use):
        deeds, wished = plan(shop, face, thickness, length, use)
        self.shop = shop
        # The deeds that are left, the next one at the end, and the wished rod, with the plan's numbers.
        self.waiting = deeds[::-1]
        self.wished = wished
        # The number that the plan has for the next rod that it makes, and by the plan's numbers those in the shop.
        self.coming = shop.coming
        self.numbers = {number: number for number in use}

    def left(self):
        """How many steps are left."""
        return len(self.waiting)

    def step(self):
        """Does the next deed; tells it with the rods' numbers in the shop."""
        if not self.waiting:
            raise NothingLeft("no step is left")
        deed = self.in_shop(self.waiting[-1])
        answer = self.shop.do(deed)
        self.waiting.pop()
        if answer is not None:
            self.numbers[self.coming] = answer
            self.coming += 1
        return deed

    def wish(self):
        """The wished rod's number in the shop, None as long as a step is left."""
        if self.waiting:
            return None
        return self.numbers[self.wished]

    def in_shop(self, deed):
        """A deed of the plan with the rods' numbers in the shop."""
        behind = 1 + RODS[deed[0]]
        rods = [self.numbers[number] for number in deed[1:behind]]
        return deed[:1] + tuple(rods) + deed[behind:]
