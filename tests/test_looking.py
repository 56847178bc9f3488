"""Point 3: cells, counts, and where two pictures are unlike."""

import unittest

from drawing import at_once, deep_pair, face_of_rows, met, rows_by_cells, rows_by_quarters, some_rows
from murrine.errors import BadDepth, NoCell, NoFace
from murrine.faces import Faces

HUGE = 10 ** 40


def by_descent(faces, face, depth, x, y):
    """The colour of a cell, found quarter by quarter."""
    for level in reversed(range(depth)):
        face = faces.quarters(face)[2 * (y >> level & 1) + (x >> level & 1)]
    return faces.colour(face)


class TestCell(unittest.TestCase):
    def test_one_cell(self):
        faces = Faces()
        self.assertEqual([faces.cell(faces.plain(colour), 0, 0, 0) for colour in range(10)], list(range(10)))

    def test_columns_from_the_left_and_rows_from_the_top(self):
        faces = Faces()
        face = faces.four(*[faces.plain(colour) for colour in (1, 2, 3, 4)])
        self.assertEqual(faces.cell(face, 1, 0, 0), 1)
        self.assertEqual(faces.cell(face, 1, 1, 0), 2)
        self.assertEqual(faces.cell(face, 1, 0, 1), 3)
        self.assertEqual(faces.cell(face, 1, 1, 1), 4)

    def test_all_cells_against_the_quarters(self):
        faces = Faces()
        for depth in range(5):
            rows = some_rows(depth, depth, range(10))
            face = face_of_rows(faces, rows)
            self.assertEqual(rows_by_cells(faces, face, depth), rows)
            for more in range(3):
                self.assertEqual(rows_by_cells(faces, face, depth + more), rows_by_quarters(faces, face, depth + more))

    def test_parts_of_unlike_depths(self):
        faces = Faces()
        plain = faces.plain(7)
        deep = face_of_rows(faces, some_rows(20, 3, range(3)))
        flat = face_of_rows(faces, some_rows(21, 1, range(3)))
        face = faces.four(plain, deep, flat, plain)
        self.assertEqual(rows_by_cells(faces, face, 4), rows_by_quarters(faces, face, 4))
        self.assertEqual(faces.cell(face, 4, 7, 7), 7)
        self.assertEqual(faces.cell(face, 4, 8, 8), 7)

    def test_greater_depths_up_to_twenty(self):
        faces = Faces()
        rows = some_rows(5, 3, range(10))
        face = face_of_rows(faces, rows)
        for depth in range(3, 21):
            wide = 2 ** (depth - 3)
            for y in range(8):
                for x in range(8):
                    for within in (0, wide // 2, wide - 1):
                        told = faces.cell(face, depth, x * wide + within, y * wide + wide - 1 - within)
                        self.assertEqual(told, rows[y][x])

    def test_deep_pictures_at_once(self):
        faces = Faces()
        face, _, _, _ = deep_pair(faces, 12)
        for depth in (12, 13, 20):
            last = 2 ** depth - 1
            for x, y in [(0, 0), (last, 0), (0, last), (last, last), (last // 3, last // 5), (last // 7, last // 2)]:
                told = at_once(lambda: faces.cell(face, depth, x, y), most=500)
                self.assertEqual(told, by_descent(faces, face, depth, x, y))

    def test_no_face_ahead_of_all(self):
        faces = Faces()
        faces.plain(1)
        for face in (-1, 1, 2, HUGE, -HUGE):
            for depth in (0, 20, -1, 21, HUGE, -HUGE):
                for x in (0, -1, HUGE):
                    with self.assertRaises(NoFace):
                        faces.cell(face, depth, x, x)

    def test_bad_depth_ahead_of_no_cell(self):
        faces = Faces()
        face = face_of_rows(faces, some_rows(6, 2, range(10)))
        for depth in (1, 0, -1, 21, 22, HUGE, -HUGE):
            for x, y in [(0, 0), (-1, 0), (0, -1), (HUGE, -HUGE)]:
                with self.assertRaises(BadDepth):
                    faces.cell(face, depth, x, y)

    def test_a_plain_one_at_depths_that_are_none(self):
        faces = Faces()
        face = faces.plain(3)
        self.assertEqual(faces.cell(face, 20, 2 ** 20 - 1, 2 ** 20 - 1), 3)
        for depth in (-1, 21):
            with self.assertRaises(BadDepth):
                faces.cell(face, depth, 0, 0)

    def test_no_cell(self):
        faces = Faces()
        plain = faces.plain(3)
        flat = face_of_rows(faces, some_rows(7, 1, range(10)))
        for face, depth in [(plain, 0), (plain, 5), (plain, 20), (flat, 1), (flat, 4), (flat, 20)]:
            size = 2 ** depth
            for wrong in (-1, -size, size, size + 1, HUGE, -HUGE):
                for x, y in [(wrong, 0), (0, wrong), (wrong, size - 1), (size - 1, wrong), (wrong, wrong)]:
                    with self.assertRaises(NoCell):
                        faces.cell(face, depth, x, y)


class TestCounts(unittest.TestCase):
    def test_against_the_cells(self):
        faces = Faces()
        for depth in range(5):
            rows = some_rows(10 + depth, depth, range(10))
            face = face_of_rows(faces, rows)
            own = [sum(row.count(colour) for row in rows) for colour in range(10)]
            for more in range(21 - depth):
                told = faces.counts(face, depth + more)
                self.assertEqual(told, [4 ** more * count for count in own])

    def test_a_plain_one(self):
        faces = Faces()
        for colour in range(10):
            for depth in (0, 1, 12, 20):
                told = faces.counts(faces.plain(colour), depth)
                self.assertEqual(told, [4 ** depth if at == colour else 0 for at in range(10)])

    def test_parts_of_unlike_depths(self):
        faces = Faces()
        a, b = faces.plain(0), faces.plain(9)
        check = faces.four(a, b, b, a)
        face = faces.four(check, a, faces.four(check, check, check, b), a)
        self.assertEqual(faces.counts(face, 3), [8 + 16 + 6 + 16, 0, 0, 0, 0, 0, 0, 0, 0, 8 + 6 + 4])

    def test_a_part_that_stands_often(self):
        faces = Faces()
        one, other, in_one, in_other = deep_pair(faces, 12)
        self.assertEqual(sum(in_one), 4 ** 12)
        for face, cells in [(one, in_one), (other, in_other)]:
            for depth in (12, 13, 19, 20):
                told = at_once(lambda: faces.counts(face, depth), most=500)
                wide = 4 ** (depth - 12)
                self.assertEqual(told, [0, cells[0] * wide, cells[1] * wide, 0, 0, 0, 0, 0, 0, 0])

    def test_it_tells_a_new_list(self):
        faces = Faces()
        plain = faces.plain(1)
        flat = faces.four(plain, plain, faces.plain(2), plain)
        for face in (plain, flat):
            for depth in (faces.depth(face), 7):
                kept = list(faces.counts(face, depth))
                told = faces.counts(face, depth)
                self.assertIs(type(told), list)
                told[1] = 77
                told.clear()
                self.assertEqual(faces.counts(face, depth), kept)
        self.assertEqual(faces.counts(faces.four(flat, plain, plain, plain), 2), [0, 15, 1, 0, 0, 0, 0, 0, 0, 0])

    def test_no_face_ahead_of_bad_depth(self):
        faces = Faces()
        faces.plain(1)
        for face in (-1, 1, 2, HUGE, -HUGE):
            for depth in (0, 20, -1, 21, HUGE, -HUGE):
                with self.assertRaises(NoFace):
                    faces.counts(face, depth)

    def test_bad_depth(self):
        faces = Faces()
        face = face_of_rows(faces, some_rows(8, 2, range(10)))
        for depth in (1, 0, -1, 21, 22, HUGE, -HUGE):
            with self.assertRaises(BadDepth):
                faces.counts(face, depth)
        for depth in (-1, 21):
            with self.assertRaises(BadDepth):
                faces.counts(faces.plain(0), depth)


class TestQuarters(unittest.TestCase):
    def test_what_is_told_is_not_the_stores_own(self):
        faces = Faces()
        face = face_of_rows(faces, some_rows(9, 2, range(10)))
        told = faces.quarters(face)
        mine = list(told)
        mine.clear()
        self.assertIs(type(told), tuple)
        self.assertEqual(faces.quarters(face), told)
        self.assertEqual(len(told), 4)


class TestApart(unittest.TestCase):
    def check(self, faces, one, other):
        told = faces.apart(one, other)
        if one == other:
            self.assertIsNone(told)
            return
        self.assertIs(type(told), tuple)
        depth, x, y = told
        self.assertEqual(depth, max(faces.depth(one), faces.depth(other)))
        self.assertNotEqual(faces.cell(one, depth, x, y), faces.cell(other, depth, x, y))

    def test_all_pairs_of_some(self):
        faces = Faces()
        told = [faces.plain(colour) for colour in range(3)]
        told += [face_of_rows(faces, some_rows(seed, 1 + seed % 3, range(2))) for seed in range(30)]
        for one in told:
            for other in told:
                self.check(faces, one, other)

    def test_one_picture(self):
        faces = Faces()
        face = face_of_rows(faces, some_rows(30, 3, range(10)))
        self.assertIsNone(faces.apart(face, face))
        self.assertIsNone(faces.apart(face, faces.turned(faces.turned(face, 1), 3)))

    def test_plain_ones(self):
        faces = Faces()
        self.assertEqual(faces.apart(faces.plain(1), faces.plain(2)), (0, 0, 0))

    def test_unlike_in_one_cell_only(self):
        faces = Faces()
        rows = some_rows(31, 4, range(9))
        face = face_of_rows(faces, rows)
        for x, y in [(0, 0), (15, 0), (0, 15), (15, 15), (6, 9), (8, 7)]:
            changed = [list(row) for row in rows]
            changed[y][x] = 9
            other = face_of_rows(faces, changed)
            self.assertEqual(faces.apart(face, other), (4, x, y))
            self.assertEqual(faces.apart(other, face), (4, x, y))

    def test_deep_ones_at_once(self):
        faces = Faces()
        one, other, _, _ = deep_pair(faces, 12)
        flat, _, _, _ = deep_pair(faces, 3)
        for pair in [(one, other), (other, one), (one, flat), (flat, other), (one, faces.plain(1)), (one, one)]:
            at_once(lambda: self.check(faces, *pair), most=2000)

    def test_no_face(self):
        faces = Faces()
        good = face_of_rows(faces, some_rows(32, 2, range(3)))
        count = met(faces)
        for wrong in (-1, -count, count, count + 1, HUGE, -HUGE):
            for one, other in [(wrong, good), (good, wrong), (wrong, wrong)]:
                with self.assertRaises(NoFace):
                    faces.apart(one, other)


if __name__ == "__main__":
    unittest.main()
