"""Points 5 and 6: turned pictures, and their kinds."""

import itertools
import unittest

from drawing import at_once, deep_pair, face_of_rows, met, rows_by_quarters, some_rows, turned_rows
from murrine.errors import BadTurn, NoFace
from murrine.faces import Faces
from murrine.turning import after, back_of

TURNINGS = range(8)
HUGE = 10 ** 40


def small_pictures(colours):
    """All pictures of two columns and two rows in these colours."""
    return [[list(cells[:2]), list(cells[2:])] for cells in itertools.product(colours, repeat=4)]


def some_pictures():
    """Pictures of depths 1 to 4, with and without sides alike."""
    drawn = [some_rows(seed, 1 + seed % 4, range(2 + seed % 5)) for seed in range(16)]
    for seed in range(4):
        rows = some_rows(seed, 2, range(3))
        both = [row + row[::-1] for row in rows]
        drawn.append(both + both[::-1])
        drawn.append([a + b for a, b in zip(rows, turned_rows(rows, 1))] +
                     [a + b for a, b in zip(turned_rows(rows, 3), turned_rows(rows, 2))])
    return drawn


class TestTurned(unittest.TestCase):
    def test_one_to_four(self):
        faces = Faces()
        a, b, c, d = [faces.plain(colour) for colour in (1, 2, 3, 4)]
        face = faces.four(a, b, c, d)
        told = [faces.quarters(faces.turned(face, turning)) for turning in TURNINGS]
        self.assertEqual(told, [
            (a, b, c, d), (c, a, d, b), (d, c, b, a), (b, d, a, c),
            (b, a, d, c), (d, b, c, a), (c, d, a, b), (a, c, b, d),
        ])

    def test_against_the_moved_cells(self):
        faces = Faces()
        for rows in some_pictures():
            face = face_of_rows(faces, rows)
            depth = len(rows).bit_length() - 1
            for turning in TURNINGS:
                turned = faces.turned(face, turning)
                moved = turned_rows(rows, turning)
                self.assertEqual(rows_by_quarters(faces, turned, depth), moved)
                self.assertEqual(face_of_rows(faces, moved), turned)
                self.assertEqual(faces.depth(turned), faces.depth(face))
                self.assertEqual(faces.counts(turned, depth), faces.counts(face, depth))

    def test_nought_leaves_it(self):
        faces = Faces()
        for rows in some_pictures():
            face = face_of_rows(faces, rows)
            self.assertEqual(faces.turned(face, 0), face)

    def test_a_plain_one_stays(self):
        faces = Faces()
        for colour in range(10):
            face = faces.plain(colour)
            self.assertEqual([faces.turned(face, turning) for turning in TURNINGS], [face] * 8)

    def test_one_behind_another(self):
        faces = Faces()
        for rows in some_pictures():
            face = face_of_rows(faces, rows)
            for one in TURNINGS:
                for other in TURNINGS:
                    by_two = faces.turned(faces.turned(face, one), other)
                    self.assertEqual(by_two, faces.turned(face, after(one, other)))

    def test_back_again(self):
        faces = Faces()
        for rows in some_pictures():
            face = face_of_rows(faces, rows)
            for turning in TURNINGS:
                self.assertEqual(faces.turned(faces.turned(face, turning), back_of(turning)), face)
                self.assertEqual(faces.turned(faces.turned(face, back_of(turning)), turning), face)

    def test_parts_of_unlike_depths(self):
        faces = Faces()
        flat = face_of_rows(faces, [[1, 2], [3, 4]])
        deep = face_of_rows(faces, some_rows(40, 3, range(10)))
        face = faces.four(faces.plain(5), flat, deep, faces.plain(6))
        rows = rows_by_quarters(faces, face, 4)
        for turning in TURNINGS:
            self.assertEqual(rows_by_quarters(faces, faces.turned(face, turning), 4), turned_rows(rows, turning))

    def test_deep_ones_at_once(self):
        faces = Faces()
        face, _, _, _ = deep_pair(faces, 12)
        before = met(faces)
        told = at_once(lambda: [faces.turned(face, turning) for turning in TURNINGS])
        self.assertLessEqual(met(faces), 8 * before)
        last = 2 ** 20 - 1
        for x, y in [(0, 0), (1, 0), (last // 3, last // 9), (last // 5, last // 11), (last, 17)]:
            colour = faces.cell(face, 20, x, y)
            self.assertEqual(faces.cell(told[1], 20, last - y, x), colour)
            self.assertEqual(faces.cell(told[2], 20, last - x, last - y), colour)
            self.assertEqual(faces.cell(told[4], 20, last - x, y), colour)
            self.assertEqual(faces.cell(told[7], 20, y, x), colour)

    def test_no_face_ahead_of_bad_turn(self):
        faces = Faces()
        faces.plain(1)
        for face in (-1, 1, 2, HUGE, -HUGE):
            for turning in (0, 3, 7, -1, 8, HUGE, -HUGE):
                with self.assertRaises(NoFace):
                    faces.turned(face, turning)

    def test_bad_turn(self):
        faces = Faces()
        plain = faces.plain(1)
        flat = face_of_rows(faces, [[1, 2], [3, 4]])
        before = met(faces)
        for face in (plain, flat):
            for turning in (-1, -8, 8, 9, 16, HUGE, -HUGE):
                with self.assertRaises(BadTurn):
                    faces.turned(face, turning)
        self.assertEqual(met(faces), before)


class TestKind(unittest.TestCase):
    def test_the_least_of_the_eight(self):
        faces = Faces()
        for rows in some_pictures():
            face = face_of_rows(faces, rows)
            told = faces.kind(face)
            eight = [faces.turned(face, turning) for turning in TURNINGS]
            self.assertEqual(told, min(eight))
            self.assertEqual([faces.kind(turned) for turned in eight], [told] * 8)

    def test_the_first_one_met_is_the_kind(self):
        for turning in TURNINGS:
            faces = Faces()
            rows = some_rows(50, 2, range(10))
            first = face_of_rows(faces, turned_rows(rows, turning))
            other = face_of_rows(faces, rows)
            self.assertEqual(faces.kind(other), first)
            self.assertEqual(faces.kind(first), first)

    def test_a_kind_stays(self):
        faces = Faces()
        drawn = some_pictures()
        before = [faces.kind(face_of_rows(faces, rows)) for rows in drawn]
        for rows in drawn:
            for turning in TURNINGS:
                face_of_rows(faces, turned_rows(rows, turning))
        self.assertEqual([faces.kind(face_of_rows(faces, rows)) for rows in drawn], before)

    def test_plain_ones(self):
        faces = Faces()
        told = [faces.plain(colour) for colour in range(10)]
        self.assertEqual([faces.kind(face) for face in told], told)

    def test_one_kind_just_where_a_turning_makes_the_one_into_the_other(self):
        faces = Faces()
        drawn = small_pictures((1, 2, 3))
        kinds = [faces.kind(face_of_rows(faces, rows)) for rows in drawn]
        eights = [[turned_rows(rows, turning) for turning in TURNINGS] for rows in drawn]
        for kind, rows in zip(kinds, drawn):
            for other, eight in zip(kinds, eights):
                self.assertEqual(kind == other, rows in eight)

    def test_a_mirror_in_a_part_only_makes_another_kind(self):
        faces = Faces()
        part = face_of_rows(faces, [[1, 2], [3, 4]])
        whole = faces.four(part, part, part, part)
        other = faces.four(part, part, part, faces.turned(part, 4))
        self.assertNotEqual(faces.kind(whole), faces.kind(other))

    def test_no_face(self):
        faces = Faces()
        faces.plain(1)
        for face in (-1, 1, 2, HUGE, -HUGE):
            with self.assertRaises(NoFace):
                faces.kind(face)

    def test_deep_ones_at_once(self):
        faces = Faces()
        one, other, _, _ = deep_pair(faces, 12)
        kind = at_once(lambda: faces.kind(one))
        self.assertEqual(kind, faces.kind(faces.turned(one, 6)))
        self.assertNotEqual(kind, faces.kind(other))


class TestTurning(unittest.TestCase):
    def test_the_least_one_or_none(self):
        faces = Faces()
        drawn = small_pictures((1, 2, 3))
        told = [face_of_rows(faces, rows) for rows in drawn]
        for one, rows in zip(told, drawn):
            eight = [turned_rows(rows, turning) for turning in TURNINGS]
            for other, wished in zip(told, drawn):
                least = eight.index(wished) if wished in eight else None
                self.assertEqual(faces.turning(one, other), least)

    def test_larger_ones(self):
        faces = Faces()
        for rows in some_pictures():
            face = face_of_rows(faces, rows)
            eight = [turned_rows(rows, turning) for turning in TURNINGS]
            for moved in eight:
                self.assertEqual(faces.turning(face, face_of_rows(faces, moved)), eight.index(moved))

    def test_one_picture(self):
        faces = Faces()
        for face in (faces.plain(2), face_of_rows(faces, [[1, 2], [3, 4]])):
            self.assertEqual(faces.turning(face, face), 0)

    def test_none_for_unlike_depths_and_colours(self):
        faces = Faces()
        flat = face_of_rows(faces, [[1, 2], [3, 4]])
        deep = face_of_rows(faces, some_rows(60, 3, range(10)))
        for one, other in [(flat, deep), (faces.plain(1), flat), (faces.plain(1), faces.plain(2))]:
            self.assertIsNone(faces.turning(one, other))
            self.assertIsNone(faces.turning(other, one))

    def test_no_face(self):
        faces = Faces()
        good = face_of_rows(faces, some_rows(61, 2, range(3)))
        for wrong in (-1, HUGE, -HUGE):
            for one, other in [(wrong, good), (good, wrong), (wrong, wrong)]:
                with self.assertRaises(NoFace):
                    faces.turning(one, other)
        wrong = met(faces)
        with self.assertRaises(NoFace):
            faces.turning(good, wrong)
        with self.assertRaises(NoFace):
            faces.turning(wrong, wrong)

    def test_deep_ones_at_once(self):
        faces = Faces()
        one, other, _, _ = deep_pair(faces, 12)
        turned = faces.turned(one, 3)
        self.assertEqual(at_once(lambda: faces.turned(one, faces.turning(one, turned))), turned)
        self.assertIsNone(at_once(lambda: faces.turning(one, other)))


if __name__ == "__main__":
    unittest.main()
