"""Plans: the deeds that make a wished rod with just so many bundlings as kinds are needed."""

from murrine.errors import BadLength, BadThickness, Short, TooThin, Twice
from murrine.needs import needed
from murrine.shop import THICKEST

LONGEST_WISH = 1000000


class Bench:
    """A twin of a shop in which the deeds of a plan are done, so that the shop itself stays as it is."""

    def __init__(self, shop):
        self.shop = shop.twin()
        self.faces = shop.store()
        # By kind, thickness and length, the rods that were made for such pieces and wait to be used.
        self.ready = {}

    def use_up(self, use, pieces):
        """Cuts the pieces of those kinds that the rods to be used have."""
        stock = {}
        for number in use:
            stock.setdefault(self.faces.kind(self.shop.rod(number)[0]), []).append(number)
        for kind in stock:
            # Plain pieces are gathered even where rods of their colour may be used up.
            if kind in pieces and self.faces.colour(kind) is None:
                self.cut_pieces(kind, stock[kind], pieces[kind])

    def bundle_kind(self, kind, pieces):
        """Bundles a kind in one go and cuts its pieces."""
        thickness, length = one_go(pieces)
        four = [self.piece(quarter, thickness - 1, length) for quarter in self.faces.quarters(kind)]
        self.cut_pieces(kind, [self.shop.bundle(*four)], pieces)

    def piece(self, face, thickness, length):
        """The number of a rod that shows the face, as thick and as long as told."""
        colour = self.faces.colour(face)
        if colour is not None:
            return self.shop.gather(colour, thickness, length)
        number = self.ready[(self.faces.kind(face), thickness, length)].pop()
        self.turn_to(number, face)
        return number

    def cut_pieces(self, kind, rods, pieces):
        """Cuts all pieces of a kind from rods of that kind."""
        waiting = sorted(rods, key=lambda number: self.shop.rod(number)[1])
        rest = None
        # The thickest pieces come first, as a rod can be pulled thinner but never made thicker.
        for thickness, length in sorted(pieces, reverse=True):
            number = self.reach(rest, waiting, thickness, length)
            rest = None
            if self.shop.rod(number)[2] > length:
                rest = self.shop.cut(number, length)
            self.ready.setdefault((kind, thickness, length), []).append(number)

    def reach(self, rest, waiting, thickness, length):
        """Makes what is left, with as many waiting rods as it takes, one rod so thick and at least so long."""
        number = rest
        if number is not None:
            self.pull_to(number, thickness)
        while number is None or self.shop.rod(number)[2] < length:
            if not waiting or self.shop.rod(waiting[-1])[1] < thickness:
                raise Short("the rods to be used hold too little glass")
            more = waiting.pop()
            self.pull_to(more, thickness)
            number = self.fused(number, more)
        return number

    def fused(self, number, more):
        """The rod that two rods of one kind and one thickness become; the first may be None."""
        if number is None:
            return more
        self.turn_to(more, self.shop.rod(number)[0])
        self.shop.fuse(number, more)
        return number

    def pull_to(self, number, thickness):
        """Pulls a rod to a thickness that is no greater than its own."""
        steps = self.shop.rod(number)[1] - thickness
        if steps > 0:
            self.shop.pull(number, steps)

    def turn_to(self, number, face):
        """Turns a rod to a face of its kind."""
        turning = self.faces.turning(self.shop.rod(number)[0], face)
        if turning > 0:
            self.shop.turn(number, turning)


def plan(shop, face, thickness, length, use):
    """The deeds that make the wished rod, and its number."""
    faces = shop.store()
    check_wish(faces, face, thickness, length)
    check_use(shop, use)
    kinds = needed(faces, face, [shop.rod(number)[0] for number in use])
    pieces = pieces_by_kind(faces, face, thickness, length, kinds)
    bench = Bench(shop)
    bench.use_up(use, pieces)
    for kind in reversed(kinds):
        bench.bundle_kind(kind, pieces[kind])
    number = bench.piece(face, thickness, length)
    return (bench.shop.deeds()[len(shop.deeds()):], number)


def check_wish(faces, face, thickness, length):
    """Refuses a wish that no rod can be."""
    depth = faces.depth(face)
    if thickness < 0 or thickness > THICKEST:
        raise BadThickness("a thickness is a number from nought to twelve")
    if thickness < depth:
        raise TooThin("the wished rod is less thick than its face is deep")
    if length < 1 or length > LONGEST_WISH:
        raise BadLength("no rod of this length is wished")


def check_use(shop, use):
    """Refuses rods to be used that are not there, or that stand twice."""
    for number in use:
        shop.rod(number)
    if len(set(use)) < len(use):
        raise Twice("a rod stands twice among those to be used")


def pieces_by_kind(faces, face, thickness, length, kinds):
    """By kind, the pieces that are needed of it, each as its thickness and length."""
    pieces = {faces.kind(face): [(thickness, length)]}
    # The deeper kinds stand first, so all pieces of a kind are known by the time it is reckoned.
    for kind in kinds:
        thick, long = one_go(pieces[kind])
        for quarter in faces.quarters(kind):
            pieces.setdefault(faces.kind(quarter), []).append((thick - 1, long))
    return pieces


def one_go(pieces):
    """As how thick and how long a rod a kind is bundled, so that it holds all its pieces."""
    thick = max([thickness for thickness, length in pieces])
    glass = sum([length << (2 * thickness) for thickness, length in pieces])
    cells = 1 << (2 * thick)
    return (thick, (glass + cells - 1) // cells)
