"""The refusals of Faces: which one comes first, and that a refused call changes nothing of the store."""

import unittest

from drawing import all_told, deep_pair, face_of_rows, met, some_rows
from murrine.errors import BadColour, BadDepth, BadTurn, NoCell, NoFace, TooDeep
from murrine.faces import Faces

HUGE = 10 ** 40
NO_COLOURS = (-1, -10, 10, 11, HUGE, -HUGE)
NO_TURNINGS = (-1, -8, 8, 9, 255, HUGE, -HUGE)
ANY_TURNINGS = NO_TURNINGS + tuple(range(8))
ANY_DEPTHS = (-HUGE, -2, -1, 0, 1, 5, 12, 13, 20, 21, HUGE)
ANY_PLACES = ((0, 0), (-1, 0), (0, -1), (3, 4), (2 ** 20, 0), (0, 2 ** 20), (HUGE, -HUGE))


def some_store():
    """A store with pictures of each depth from 0 to 12, and a face of each depth."""
    faces = Faces()
    plain = faces.plain(3)
    face_of_rows(faces, some_rows(70, 2, range(10)))
    deep_pair(faces, 12)
    by_depth = {faces.depth(face): face for face in range(met(faces))}
    by_depth[0] = plain
    return faces, [by_depth[depth] for depth in range(13)]


def no_faces(faces):
    """Numbers that no face has."""
    count = met(faces)
    return (-1, -count, -count - 1, count, count + 1, HUGE, -HUGE)


class Refusing(unittest.TestCase):
    def setUp(self):
        self.faces, self.by_depth = some_store()
        self.before = all_told(self.faces)
        self.plain = self.by_depth[0]

    def check(self, refusal, calls):
        """Each call is refused so, and the store then tells what it told ahead of them."""
        for at, call in enumerate(calls):
            with self.subTest(at):
                with self.assertRaises(refusal):
                    call()
        self.assertEqual(all_told(self.faces), self.before)
        # The next picture met is numbered on without a gap, and those met are found again.
        self.assertEqual([self.faces.four(*told[1]) for told in self.before], list(range(len(self.before))))
        one, other = self.faces.plain(3), self.faces.plain(2)
        self.assertEqual(self.faces.four(one, one, one, other), len(self.before))


class TestNoFaceAheadOfAll(Refusing):
    def test_four(self):
        calls = []
        for wrong in no_faces(self.faces):
            for good in (self.plain, self.by_depth[11], self.by_depth[12]):
                for place in range(4):
                    parts = [good] * 4
                    parts[place] = wrong
                    calls.append(lambda parts=parts: self.faces.four(*parts))
        self.check(NoFace, calls)

    def test_four_with_a_part_that_would_be_too_deep(self):
        deep = self.by_depth[12]
        calls = []
        for wrong in no_faces(self.faces):
            for parts in [(deep, deep, deep, wrong), (wrong, deep, deep, deep), (deep, wrong, self.plain, wrong)]:
                calls.append(lambda parts=parts: self.faces.four(*parts))
        self.check(NoFace, calls)

    def test_depth_quarters_colour_and_kind(self):
        told = (self.faces.depth, self.faces.quarters, self.faces.colour, self.faces.kind)
        self.check(NoFace, [
            lambda call=call, wrong=wrong: call(wrong) for call in told for wrong in no_faces(self.faces)
        ])

    def test_cell(self):
        self.check(NoFace, [
            lambda face=face, depth=depth, x=x, y=y: self.faces.cell(face, depth, x, y)
            for face in no_faces(self.faces) for depth in ANY_DEPTHS for x, y in ANY_PLACES
        ])

    def test_counts(self):
        self.check(NoFace, [
            lambda face=face, depth=depth: self.faces.counts(face, depth)
            for face in no_faces(self.faces) for depth in ANY_DEPTHS
        ])

    def test_turned(self):
        self.check(NoFace, [
            lambda face=face, turning=turning: self.faces.turned(face, turning)
            for face in no_faces(self.faces) for turning in ANY_TURNINGS
        ])

    def test_turning_and_apart(self):
        calls = []
        for wrong in no_faces(self.faces):
            for good in (self.plain, self.by_depth[12], wrong):
                for one, other in [(good, wrong), (wrong, good)]:
                    calls.append(lambda one=one, other=other: self.faces.turning(one, other))
                    calls.append(lambda one=one, other=other: self.faces.apart(one, other))
        self.check(NoFace, calls)

    def test_an_empty_store(self):
        faces = Faces()
        for face in (0, 1, -1, HUGE, -HUGE):
            for depth in ANY_DEPTHS:
                self.assertRaises(NoFace, faces.counts, face, depth)
                self.assertRaises(NoFace, faces.cell, face, depth, 0, 0)
                self.assertRaises(NoFace, faces.cell, face, depth, HUGE, -1)
            for turning in ANY_TURNINGS:
                self.assertRaises(NoFace, faces.turned, face, turning)
            self.assertRaises(NoFace, faces.kind, face)
            self.assertRaises(NoFace, faces.turning, face, face)
            self.assertRaises(NoFace, faces.apart, face, face)
            self.assertRaises(NoFace, faces.four, face, face, face, face)
        self.assertEqual(met(faces), 0)
        self.assertEqual(faces.plain(4), 0)


class TestTheOthers(Refusing):
    def test_bad_colour(self):
        self.check(BadColour, [lambda wrong=wrong: self.faces.plain(wrong) for wrong in NO_COLOURS])

    def test_bad_colour_in_an_empty_store(self):
        faces = Faces()
        for wrong in NO_COLOURS:
            self.assertRaises(BadColour, faces.plain, wrong)
        self.assertEqual(met(faces), 0)

    def test_too_deep(self):
        deep = self.by_depth[12]
        calls = [lambda: self.faces.four(deep, deep, deep, deep)]
        for place in range(4):
            parts = [self.plain] * 4
            parts[place] = deep
            calls.append(lambda parts=parts: self.faces.four(*parts))
        self.check(TooDeep, calls)

    def test_bad_depth_ahead_of_no_cell(self):
        self.check(BadDepth, [
            lambda face=face, depth=depth, x=x, y=y: self.faces.cell(face, depth, x, y)
            for own, face in enumerate(self.by_depth) for depth in (-HUGE, -1, own - 1, 21, HUGE)
            for x, y in ANY_PLACES
        ])

    def test_bad_depth_of_counts(self):
        self.check(BadDepth, [
            lambda face=face, depth=depth: self.faces.counts(face, depth)
            for own, face in enumerate(self.by_depth) for depth in (-HUGE, -1, own - 1, 21, HUGE)
        ])

    def test_no_cell(self):
        calls = []
        for own, face in enumerate(self.by_depth):
            for depth in (own, 20):
                size = 2 ** depth
                for wrong in (-1, -size, size, HUGE, -HUGE):
                    for x, y in [(wrong, 0), (0, wrong), (wrong, wrong)]:
                        calls.append(lambda told=(face, depth, x, y): self.faces.cell(*told))
        self.check(NoCell, calls)

    def test_bad_turn(self):
        self.check(BadTurn, [
            lambda face=face, turning=turning: self.faces.turned(face, turning)
            for face in self.by_depth for turning in NO_TURNINGS
        ])


if __name__ == "__main__":
    unittest.main()
