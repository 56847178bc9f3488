"""Shops for tests: all that one tells, and a model of one that keeps its pictures cell by cell."""

import copy

from drawing import quarter_rows, rows_by_quarters, turned_rows
from murrine.errors import NothingLeft

MAKING = ("gather", "bundle", "cut")


def stand(shop):
    """All that a shop tells, and what it tells as its deeds are taken back, and done again, one by one."""
    back, again = shop.twin(), shop.twin()
    return (shop.look(), shop.deeds(), all_looks(back, back.undo), all_looks(again, again.redo))


def all_looks(shop, move):
    """What the shop tells behind each move, until nothing is left to be moved."""
    told = []
    while True:
        try:
            move()
        except NothingLeft:
            return told
        told.append((shop.look(), shop.deeds()))


def done_all(shop, deeds):
    """Does the deeds, and gives their answers."""
    return [shop.do(deed) for deed in deeds]


def least_rows(rows):
    """The rows of the same picture at its own depth."""
    while len(rows) > 1:
        if not all(len({cell for row in rows[y:y + 2] for cell in row[x:x + 2]}) == 1
                   for y in range(0, len(rows), 2) for x in range(0, len(rows), 2)):
            return rows
        rows = [row[::2] for row in rows[::2]]
    return rows


def wide_rows(rows, size):
    """The rows of the same picture with so many columns and rows."""
    times = size // len(rows)
    return [[cell for cell in row for _ in range(times)] for row in rows for _ in range(times)]


def depth_of(rows):
    """The depth of the picture that the rows show."""
    return len(least_rows(rows)).bit_length() - 1


class Refused(Exception):
    """A deed that the model refuses: the name of the refusal."""


class Model:
    """A shop by the words of the document; a rod is a tuple of rows at their own depth, thickness and length."""

    def __init__(self):
        self.now = {"rods": {}, "next": 1, "gathered": [0] * 10, "sold": [0] * 10, "wasted": [0] * 10,
                    "bundled": [], "deeds": []}
        self.behind = []
        self.ahead = []

    def refuse(self, wrong, name):
        if wrong:
            raise Refused(name)

    def do(self, deed):
        """Does a deed, and gives its answer."""
        was = copy.deepcopy(self.now)
        answer = getattr(self, deed[0])(*deed[1:])
        self.now["deeds"].append(deed)
        if deed[0] in MAKING:
            answer = self.now["next"]
            self.now["next"] += 1
        self.behind.append(was)
        self.ahead = []
        return answer

    def rod(self, number):
        self.refuse(number not in self.now["rods"], "NoRod")
        return self.now["rods"][number]

    def new(self, rows, thickness, length):
        self.now["rods"][self.now["next"]] = (least_rows(rows), thickness, length)

    def gather(self, colour, thickness, length):
        self.refuse(colour not in range(10), "BadColour")
        self.refuse(thickness not in range(13), "BadThickness")
        self.refuse(not 1 <= length <= 999999999999999, "BadLength")
        self.new([[colour]], thickness, length)
        self.now["gathered"][colour] += length * 4 ** thickness

    def pull(self, number, steps):
        rows, thickness, length = self.rod(number)
        self.refuse(steps < 1, "BadSteps")
        self.refuse(thickness - steps < depth_of(rows), "TooThin")
        self.now["rods"][number] = (rows, thickness - steps, length * 4 ** steps)

    def bundle(self, *numbers):
        rods = [self.rod(number) for number in numbers]
        self.refuse(len(set(numbers)) != 4, "Twice")
        self.refuse(len({rod[1:] for rod in rods}) != 1, "Unlike")
        self.refuse(rods[0][1] == 12, "TooThick")
        size = max(len(rod[0]) for rod in rods)
        a, b, c, d = [wide_rows(rod[0], size) for rod in rods]
        rows = [one + other for one, other in zip(a + c, b + d)]
        for number in numbers:
            del self.now["rods"][number]
        self.new(rows, rods[0][1] + 1, rods[0][2])
        self.now["bundled"].append(least_rows(rows))

    def turn(self, number, turning):
        rows, thickness, length = self.rod(number)
        self.refuse(turning not in range(8), "BadTurn")
        self.now["rods"][number] = (turned_rows(rows, turning), thickness, length)

    def cut(self, number, length):
        rows, thickness, whole = self.rod(number)
        self.refuse(not 1 <= length < whole or length > 999999999999999999, "BadLength")
        self.now["rods"][number] = (rows, thickness, length)
        self.new(rows, thickness, whole - length)

    def fuse(self, one, other):
        rows, thickness, length = self.rod(one)
        second = self.rod(other)
        self.refuse(one == other, "Twice")
        self.refuse(second[:2] != (rows, thickness), "Unlike")
        self.now["rods"][one] = (rows, thickness, length + second[2])
        del self.now["rods"][other]

    def sell(self, number):
        self.leave(number, "sold")

    def waste(self, number):
        self.leave(number, "wasted")

    def leave(self, number, where):
        rod = self.rod(number)
        for colour, glass in enumerate(self.glass_in(rod)):
            self.now[where][colour] += glass
        del self.now["rods"][number]

    def glass_in(self, rod):
        rows, thickness, length = rod
        cells = 4 ** (thickness - depth_of(rows))
        return [sum(row.count(colour) for row in rows) * cells * length for colour in range(10)]

    def undo(self):
        self.refuse(not self.behind, "NothingLeft")
        self.ahead.append(self.now)
        self.now = self.behind.pop()

    def redo(self):
        self.refuse(not self.ahead, "NothingLeft")
        self.behind.append(self.now)
        self.now = self.ahead.pop()

    def look(self):
        """What a look tells, with rows in the faces' places, and the deeds that count."""
        rods = [(number, *self.now["rods"][number]) for number in sorted(self.now["rods"])]
        held = [sum(self.glass_in(rod[1:])[colour] for rod in rods) for colour in range(10)]
        glass = list(zip(self.now["gathered"], held, self.now["sold"], self.now["wasted"]))
        return rods, self.now["next"], glass, self.now["bundled"], self.now["deeds"]


def look_with_rows(shop):
    """What a shop's look tells, with rows in the faces' places, and the deeds that count."""
    faces = shop.store()
    rods, coming, glass, bundled = shop.look()
    shown = {face: rows_by_quarters(faces, face, faces.depth(face)) for face in [rod[1] for rod in rods] + bundled}
    rods = [(number, shown[face], thickness, length) for number, face, thickness, length in rods]
    return rods, coming, glass, [shown[face] for face in bundled], shop.deeds()
