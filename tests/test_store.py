"""Points 2 and 4: pictures, and the numbers that a store gives them."""

import unittest

from drawing import at_once, deep_pair, face_of_rows, met, rows_by_quarters, some_rows
from murrine.errors import BadColour, NoFace, TooDeep
from murrine.faces import Faces

HUGE = 10 ** 40


def deepened(faces, face, steps):
    """A picture so many depths deeper than a face, which is its upper left at last."""
    for _ in range(steps):
        face = faces.four(face, faces.plain(8), faces.plain(8), faces.plain(9))
    return face


class TestPlain(unittest.TestCase):
    def test_unlike_colours_have_unlike_faces(self):
        faces = Faces()
        told = [faces.plain(colour) for colour in range(10)]
        self.assertEqual(sorted(told), list(range(10)))

    def test_the_same_colour_has_the_same_face(self):
        faces = Faces()
        told = [faces.plain(colour) for colour in (3, 9, 0, 5)]
        faces.four(*told)
        self.assertEqual([faces.plain(colour) for colour in (3, 9, 0, 5)], told)

    def test_what_is_told_of_it(self):
        faces = Faces()
        for colour in range(10):
            face = faces.plain(colour)
            self.assertEqual(faces.depth(face), 0)
            self.assertEqual(faces.colour(face), colour)
            self.assertEqual(faces.quarters(face), (face, face, face, face))

    def test_bad_colours(self):
        faces = Faces()
        faces.plain(0)
        for colour in (-1, -2, -9, -10, -HUGE, 10, 11, 100, HUGE):
            with self.assertRaises(BadColour):
                faces.plain(colour)
        self.assertEqual(met(faces), 1)


class TestFour(unittest.TestCase):
    def test_four_plain_ones_of_a_colour_are_that_plain_one(self):
        faces = Faces()
        for colour in range(10):
            face = faces.plain(colour)
            self.assertEqual(faces.four(face, face, face, face), face)
        self.assertEqual(met(faces), 10)

    def test_they_are_it_at_any_depth(self):
        faces = Faces()
        self.assertEqual(face_of_rows(faces, [[7] * 16] * 16), faces.plain(7))

    def test_four_of_one_that_is_not_plain_are_another(self):
        faces = Faces()
        one, other = faces.plain(1), faces.plain(2)
        check = faces.four(one, other, other, one)
        whole = faces.four(check, check, check, check)
        self.assertNotEqual(whole, check)
        self.assertEqual(faces.depth(whole), 2)
        self.assertEqual(faces.quarters(whole), (check, check, check, check))

    def test_what_is_told_of_it(self):
        faces = Faces()
        a, b, c, d = [faces.plain(colour) for colour in (4, 3, 2, 1)]
        face = faces.four(a, b, c, d)
        self.assertEqual(faces.depth(face), 1)
        self.assertEqual(faces.quarters(face), (a, b, c, d))
        self.assertIs(type(faces.quarters(face)), tuple)
        self.assertIsNone(faces.colour(face))

    def test_the_depth_is_one_more_than_the_greatest(self):
        faces = Faces()
        shallow = faces.plain(8)
        for place in range(4):
            parts = [shallow] * 4
            parts[place] = deepened(faces, shallow, 5)
            self.assertEqual(faces.depth(faces.four(*parts)), 6)

    def test_the_order_of_the_quarters_counts(self):
        faces = Faces()
        a, b = faces.plain(0), faces.plain(1)
        told = [faces.four(a, b, b, b), faces.four(b, a, b, b), faces.four(b, b, a, b), faces.four(b, b, b, a)]
        self.assertEqual(len(set(told)), 4)

    def test_too_deep(self):
        faces = Faces()
        plain = faces.plain(8)
        for depth in range(1, 13):
            deep = deepened(faces, plain, depth)
            self.assertEqual(faces.depth(deep), depth)
        before = met(faces)
        for parts in [(deep, plain, plain, plain), (plain, deep, plain, plain), (plain, plain, deep, plain),
                      (plain, plain, plain, deep), (deep, deep, deep, deep)]:
            with self.assertRaises(TooDeep):
                faces.four(*parts)
        self.assertEqual(met(faces), before)
        self.assertEqual(faces.depth(deep), 12)

    def test_no_face(self):
        faces = Faces()
        plain = faces.plain(8)
        deep = deepened(faces, plain, 12)
        count = met(faces)
        for wrong in (-1, -2, -count, count, count + 1, HUGE, -HUGE):
            for good in (plain, deep):
                for place in range(4):
                    parts = [good] * 4
                    parts[place] = wrong
                    with self.assertRaises(NoFace):
                        faces.four(*parts)
        self.assertEqual(met(faces), count)


class TestNumbers(unittest.TestCase):
    def test_an_empty_store_has_none(self):
        faces = Faces()
        for face in (0, 1, -1, HUGE, -HUGE):
            for call in (faces.depth, faces.quarters, faces.colour):
                with self.assertRaises(NoFace):
                    call(face)
            with self.assertRaises(NoFace):
                faces.four(face, face, face, face)

    def test_from_nought_on_without_a_gap(self):
        faces = Faces()
        told = [faces.plain(5), faces.plain(2)]
        told += [faces.four(told[0], told[0], told[1], told[0]), faces.plain(9)]
        told += [faces.four(told[2], told[3], told[2], told[1])]
        count = met(faces)
        self.assertEqual(len(set(told)), 5)
        for face in told:
            self.assertIn(face, range(count))
        for face in range(count):
            a, b, c, d = faces.quarters(face)
            self.assertEqual(faces.four(a, b, c, d), face)
        self.assertEqual(met(faces), count)

    def test_the_first_picture_has_nought(self):
        faces = Faces()
        self.assertEqual(faces.plain(6), 0)

    def test_turned_ones_leave_no_gap(self):
        faces = Faces()
        face = face_of_rows(faces, some_rows(1, 3, range(10)))
        told = [faces.turned(face, turning) for turning in range(8)]
        faces.kind(face)
        count = met(faces)
        self.assertLess(max(told), count)
        for face in range(count):
            self.assertEqual(faces.four(*faces.quarters(face)), face)

    def test_wrong_numbers(self):
        faces = Faces()
        face_of_rows(faces, some_rows(2, 2, range(4)))
        count = met(faces)
        for wrong in (-1, -count, -count - 1, count, count + 1, HUGE, -HUGE):
            for call in (faces.depth, faces.quarters, faces.colour):
                with self.assertRaises(NoFace):
                    call(wrong)

    def test_the_same_picture_met_in_another_way(self):
        faces = Faces()
        rows = some_rows(3, 3, range(3))
        face = face_of_rows(faces, rows)
        deepened(faces, face, 4)
        self.assertEqual(face_of_rows(faces, rows), face)
        by_turns = faces.turned(faces.turned(face, 5), 5)
        self.assertEqual(by_turns, face)
        mirrored = face_of_rows(faces, [row[::-1] for row in rows])
        self.assertEqual(faces.turned(mirrored, 4), face)

    def test_unlike_pictures_have_unlike_faces(self):
        faces = Faces()
        seen = {}
        for seed in range(300):
            rows = some_rows(seed, seed % 3, range(2 + seed % 2))
            face = face_of_rows(faces, rows)
            whole = tuple(tuple(rows[y * len(rows) // 4][x * len(rows) // 4] for x in range(4)) for y in range(4))
            self.assertEqual(seen.setdefault(face, whole), whole)
        self.assertEqual(len(set(seen.values())), len(seen))

    def test_a_face_stays_what_it_was(self):
        faces = Faces()
        rows = [some_rows(seed, 2, range(10)) for seed in range(10)]
        told = [face_of_rows(faces, drawn) for drawn in rows]
        before = [(faces.depth(face), faces.quarters(face), faces.colour(face)) for face in told]
        for face in told:
            faces.kind(face)
            deepened(faces, face, 10)
        self.assertEqual([(faces.depth(face), faces.quarters(face), faces.colour(face)) for face in told], before)
        for face, drawn in zip(told, rows):
            self.assertEqual(rows_by_quarters(faces, face, 2), drawn)
            self.assertEqual(face_of_rows(faces, drawn), face)

    def test_a_deep_picture_met_again(self):
        faces = Faces()
        one, other, _, _ = deep_pair(faces, 12)
        count = met(faces)
        self.assertEqual(deep_pair(faces, 12)[:2], (one, other))
        self.assertEqual(met(faces), count)
        self.assertEqual(faces.depth(one), 12)

    def test_stores_know_nothing_of_each_other(self):
        one, other = Faces(), Faces()
        one.plain(1)
        one.plain(2)
        with self.assertRaises(NoFace):
            other.depth(0)
        self.assertEqual(other.plain(2), 0)
        self.assertEqual(one.colour(0), 1)

    def test_a_deep_picture_is_met_at_once(self):
        faces = Faces()
        at_once(lambda: deep_pair(faces, 12))
        self.assertLess(met(faces), 60)


if __name__ == "__main__":
    unittest.main()
