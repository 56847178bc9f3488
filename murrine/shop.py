"""A shop: its rods, the deeds that are done with them, and what became of the glass."""

from murrine.deeds import GREATEST, is_deed
from murrine.errors import (
    BadColour, BadDeed, BadLength, BadSteps, BadThickness, NoRod, NothingLeft, TooThick, TooThin, Twice, Unlike,
)
from murrine.faces import COLOURS

THICKEST = 12
LONGEST_GATHERED = 999999999999999


class Shop:
    """Rods with their numbers; what is told of a rod is a tuple of its face, its thickness and its length."""

    def __init__(self, faces):
        self.faces = faces
        # By number, the rods that are there, and the number that the next one gets.
        self.racks = {}
        self.coming = 1
        # By the deed that brings it in or takes it away, the glass of each colour; replaced, never changed in place.
        self.flows = {name: [0] * COLOURS for name in ("gather", "sell", "waste")}
        self.bundlings = []
        # The deeds that count, each with what it takes to take it back, and the deeds that were taken back.
        self.done = []
        self.taken = []

    def gather(self, colour, thickness, length):
        """A new plain rod; tells its number."""
        if colour < 0 or colour >= COLOURS:
            raise BadColour("a colour is a number from nought to nine")
        if thickness < 0 or thickness > THICKEST:
            raise BadThickness("a thickness is a number from nought to twelve")
        if length < 1 or length > LONGEST_GATHERED:
            raise BadLength("no rod of this length is gathered")
        number = self.coming
        rod = (self.faces.plain(colour), thickness, length)
        self.record(("gather", colour, thickness, length), {number: rod})
        self.book("gather", rod)
        return number

    def pull(self, rod, steps):
        """Makes a rod one less thick and four times as long with each step."""
        face, thickness, length = self.rod(rod)
        if steps < 1:
            raise BadSteps("a rod is pulled by one step at least")
        if thickness - steps < self.faces.depth(face):
            raise TooThin("the rod would be less thick than its face is deep")
        self.record(("pull", rod, steps), {rod: (face, thickness - steps, length << (2 * steps))})

    def bundle(self, a, b, c, d):
        """Makes four rods one, with their faces as quarters; tells its number."""
        four = (a, b, c, d)
        rods = [self.rod(number) for number in four]
        if len(set(four)) < len(four):
            raise Twice("one rod stands twice in a bundle")
        thickness, length = rods[0][1:]
        if any([rod[1:] != (thickness, length) for rod in rods]):
            raise Unlike("the rods of a bundle are of one thickness and one length")
        if thickness >= THICKEST:
            raise TooThick("the bundle would be too thick")
        number = self.coming
        quarters = [rod[0] for rod in rods]
        face = self.faces.four(*quarters)
        self.record(("bundle", a, b, c, d), {a: None, b: None, c: None, d: None, number: (face, thickness + 1, length)})
        self.bundlings.append(face)
        return number

    def turn(self, rod, turning):
        """Turns a rod's face."""
        face, thickness, length = self.rod(rod)
        turned = self.faces.turned(face, turning)
        self.record(("turn", rod, turning), {rod: (turned, thickness, length)})

    def cut(self, rod, length):
        """Cuts a rod to a length; the rest is a new rod, whose number is told."""
        face, thickness, whole = self.rod(rod)
        if length < 1 or length >= whole or length > GREATEST:
            raise BadLength("a rod is not cut at this length")
        number = self.coming
        self.record(("cut", rod, length), {rod: (face, thickness, length), number: (face, thickness, whole - length)})
        return number

    def fuse(self, one, other):
        """Makes two rods the first one, as long as both."""
        face, thickness, length = self.rod(one)
        second = self.rod(other)
        if one == other:
            raise Twice("a rod is not fused to itself")
        if second[:2] != (face, thickness):
            raise Unlike("rods that are fused show one face and are of one thickness")
        self.record(("fuse", one, other), {one: (face, thickness, length + second[2]), other: None})

    def sell(self, rod):
        """Takes a rod away that is sold."""
        gone = self.rod(rod)
        self.record(("sell", rod), {rod: None})
        self.book("sell", gone)

    def waste(self, rod):
        """Takes a rod away that is wasted."""
        gone = self.rod(rod)
        self.record(("waste", rod), {rod: None})
        self.book("waste", gone)

    def do(self, deed):
        """Does the deed that a tuple tells, with its answer."""
        if not is_deed(deed):
            raise BadDeed("the tuple is no deed")
        name, *numbers = deed
        if name == "gather":
            return self.gather(*numbers)
        if name == "pull":
            return self.pull(*numbers)
        if name == "bundle":
            return self.bundle(*numbers)
        if name == "turn":
            return self.turn(*numbers)
        if name == "cut":
            return self.cut(*numbers)
        if name == "fuse":
            return self.fuse(*numbers)
        if name == "sell":
            return self.sell(*numbers)
        return self.waste(*numbers)

    def undo(self):
        """Takes back the last deed that counts."""
        if not self.done:
            raise NothingLeft("no deed is left to be taken back")
        deed, before, coming, flows = self.done.pop()
        self.put(before)
        self.coming = coming
        self.flows = flows
        if deed[0] == "bundle":
            self.bundlings.pop()
        self.taken.append(deed)

    def redo(self):
        """Does again the deed that was taken back last."""
        if not self.taken:
            raise NothingLeft("no deed is left to be done again")
        # All is as it was ahead of the deed, so it is not refused and makes of the rods what it made of them.
        taken = self.taken
        self.do(taken.pop())
        self.taken = taken

    def twin(self):
        """A shop that stands as this one does and goes its own way."""
        twin = Shop(self.faces)
        twin.racks = dict(self.racks)
        twin.coming = self.coming
        twin.flows = dict(self.flows)
        twin.bundlings = list(self.bundlings)
        twin.done = list(self.done)
        twin.taken = list(self.taken)
        return twin

    def store(self):
        """The store of faces that was handed in."""
        return self.faces

    def rod(self, number):
        """A rod's face, thickness and length."""
        if number not in self.racks:
            raise NoRod("there is no rod of this number, or no more")
        return self.racks[number]

    def rods(self):
        """The numbers of all rods, rising."""
        return sorted(self.racks)

    def glass(self):
        """For each colour, how much was gathered, is in rods, was sold and was wasted."""
        held = [0] * COLOURS
        for rod in self.racks.values():
            held = added(held, self.glass_in(rod))
        return list(zip(self.flows["gather"], held, self.flows["sell"], self.flows["waste"]))

    def bundled(self):
        """The faces that bundlings made, as they came."""
        return list(self.bundlings)

    def deeds(self):
        """The deeds that count."""
        return [done[0] for done in self.done]

    def look(self):
        """All rods with their numbers, the next number, the glass, and the bundled faces."""
        rods = [(number,) + self.racks[number] for number in self.rods()]
        return (rods, self.coming, self.glass(), self.bundled())

    def record(self, deed, rods):
        """Does a deed that is not refused: by number, what becomes of the rods that it touches, None for no rod."""
        before = {number: self.racks.get(number) for number in rods}
        self.done.append((deed, before, self.coming, self.flows))
        self.taken = []
        if self.coming in rods:
            self.coming += 1
        self.put(rods)

    def put(self, rods):
        """Puts rods in their places; where one is None, its place is empty from then on."""
        for number in rods:
            if rods[number] is None:
                del self.racks[number]
            else:
                self.racks[number] = rods[number]

    def book(self, name, rod):
        """Counts the glass of a rod that a deed of this name brought in or took away."""
        flows = dict(self.flows)
        flows[name] = added(flows[name], self.glass_in(rod))
        self.flows = flows

    def glass_in(self, rod):
        """How much glass of each colour a rod holds."""
        face, thickness, length = rod
        return [cells * length for cells in self.faces.counts(face, thickness)]


def added(one, other):
    """Two rows of numbers as one, number by number."""
    return [first + second for first, second in zip(one, other)]
