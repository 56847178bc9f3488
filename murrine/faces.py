"""A store of pictures: each picture has one number in it, its face."""

from murrine.errors import BadColour, BadDepth, BadTurn, NoCell, NoFace, TooDeep
from murrine.turning import goes_to

COLOURS = 10
DEEPEST = 12
DEEPEST_LOOK = 20
TURNINGS = 8


class Faces:
    """Pictures, each once; what is told of a face is reckoned from its quarters' faces, never cell by cell."""

    def __init__(self):
        # By face: the depth, the colour or None, the quarters, and the cells of each colour at that depth.
        self.depths = []
        self.colours = []
        self.fours = []
        self.tallies = []
        # The way from a picture to its face.
        self.plain_faces = {}
        self.four_faces = {}
        self.turned_faces = {}

    def plain(self, colour):
        """The face of the plain picture of a colour."""
        if colour < 0 or colour >= COLOURS:
            raise BadColour("a colour is a number from nought to nine")
        if colour not in self.plain_faces:
            self.meet_plain(colour)
        return self.plain_faces[colour]

    def four(self, a, b, c, d):
        """The face of the picture with these quarters."""
        four = (a, b, c, d)
        for face in four:
            self.check_face(face)
        if four not in self.four_faces:
            self.meet_four(four)
        return self.four_faces[four]

    def depth(self, face):
        """The depth of a picture."""
        self.check_face(face)
        return self.depths[face]

    def quarters(self, face):
        """The faces of the four quarters; those of a plain picture are itself."""
        self.check_face(face)
        return self.fours[face]

    def colour(self, face):
        """The colour of a plain picture, None of any other."""
        self.check_face(face)
        return self.colours[face]

    def cell(self, face, depth, x, y):
        """The colour of a cell of the picture at a depth."""
        self.check_look(face, depth)
        size = 1 << depth
        if x < 0 or x >= size or y < 0 or y >= size:
            raise NoCell("there is no such cell at this depth")
        while self.colours[face] is None:
            size //= 2
            place = 2 * (y // size) + x // size
            x, y = x % size, y % size
            face = self.fours[face][place]
        return self.colours[face]

    def counts(self, face, depth):
        """How many cells of each colour the picture has at a depth."""
        self.check_look(face, depth)
        return self.spread(face, depth)

    def turned(self, face, turning):
        """The face of the turned picture."""
        self.check_face(face)
        if turning < 0 or turning >= TURNINGS:
            raise BadTurn("a turning is a number from nought to seven")
        return self.turn_face(face, turning)

    def kind(self, face):
        """The least face of the eight turned pictures."""
        self.check_face(face)
        return min([self.turn_face(face, turning) for turning in range(TURNINGS)])

    def turning(self, one, other):
        """The least turning that makes the one picture into the other, or None."""
        self.check_face(one)
        self.check_face(other)
        for turning in range(TURNINGS):
            if self.turn_face(one, turning) == other:
                return turning
        return None

    def apart(self, one, other):
        """A depth and a cell at which the two pictures are unlike, or None."""
        self.check_face(one)
        self.check_face(other)
        if one == other:
            return None
        depth = max(self.depths[one], self.depths[other])
        size = 1 << depth
        left, top = 0, 0
        while self.colours[one] is None or self.colours[other] is None:
            size //= 2
            place = self.unlike_place(one, other)
            left += size * (place % 2)
            top += size * (place // 2)
            one, other = self.fours[one][place], self.fours[other][place]
        return (depth, left, top)

    def check_face(self, face):
        """Refuses a number that no face has."""
        if face < 0 or face >= len(self.depths):
            raise NoFace("no face has this number")

    def check_look(self, face, depth):
        """Refuses a depth at which the picture cannot be looked at."""
        self.check_face(face)
        if depth < self.depths[face] or depth > DEEPEST_LOOK:
            raise BadDepth("the picture cannot be looked at at this depth")

    def meet_plain(self, colour):
        """Gives a new plain picture its face."""
        face = len(self.depths)
        four = (face, face, face, face)
        self.depths.append(0)
        self.colours.append(colour)
        self.fours.append(four)
        self.tallies.append(tuple([1 if at == colour else 0 for at in range(COLOURS)]))
        self.plain_faces[colour] = face
        # Four times one plain picture is that picture, so its quarters must lead back to it.
        self.four_faces[four] = face

    def meet_four(self, four):
        """Gives a new picture that is not plain its face."""
        depth = max([self.depths[part] for part in four])
        if depth >= DEEPEST:
            raise TooDeep("the picture would be too deep")
        shares = [self.spread(part, depth) for part in four]
        face = len(self.depths)
        self.depths.append(depth + 1)
        self.colours.append(None)
        self.fours.append(four)
        self.tallies.append(tuple([sum([share[at] for share in shares]) for at in range(COLOURS)]))
        self.four_faces[four] = face

    def spread(self, face, depth):
        """What counts tells, for a depth that is good."""
        cells = 1 << (2 * (depth - self.depths[face]))
        return [count * cells for count in self.tallies[face]]

    def turn_face(self, face, turning):
        """What turned tells, for a face and a turning that are good."""
        if turning == 0 or self.colours[face] is not None:
            return face
        # Each part is turned once in a store's life, however often it stands in pictures.
        if (face, turning) not in self.turned_faces:
            self.turned_faces[(face, turning)] = self.turn_quarters(face, turning)
        return self.turned_faces[(face, turning)]

    def turn_quarters(self, face, turning):
        """The face of the turned picture, made of its turned quarters."""
        four = self.fours[face]
        moved = [0, 0, 0, 0]
        for place in range(4):
            x, y = goes_to(turning, 2, place % 2, place // 2)
            moved[2 * y + x] = self.turn_face(four[place], turning)
        return self.four(moved[0], moved[1], moved[2], moved[3])

    def unlike_place(self, one, other):
        """The first place in which two unlike pictures, not both plain, have unlike quarters."""
        mine, theirs = self.fours[one], self.fours[other]
        return min([place for place in range(4) if mine[place] != theirs[place]])
