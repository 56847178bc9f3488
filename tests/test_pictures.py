"""Points 3, 4 and 20: small pictures as rows, and the faces that show them."""

import unittest

from drawing import all_told, at_once, deep_pair, face_of_rows, met, rows_by_quarters, some_rows, texts, turned_rows
from murrine.errors import BadDepth, BadPicture, NoFace
from murrine.faces import Faces
from murrine.pictures import face_of, rows_of
from wording import check_words

HUGE = 10 ** 40
SIGNS = [chr(code) for code in range(ord(" "), ord("~") + 1)]


class TestRowsOf(unittest.TestCase):
    def test_one_cell(self):
        faces = Faces()
        for colour in range(10):
            self.assertEqual(rows_of(faces, faces.plain(colour), 0), [str(colour)])

    def test_a_plain_one_at_each_depth(self):
        faces = Faces()
        face = faces.plain(7)
        for depth in range(6):
            self.assertEqual(rows_of(faces, face, depth), ["7" * 2 ** depth] * 2 ** depth)

    def test_the_uppermost_row_first_and_columns_from_the_left(self):
        faces = Faces()
        face = faces.four(*[faces.plain(colour) for colour in (1, 2, 3, 4)])
        self.assertEqual(rows_of(faces, face, 1), ["12", "34"])
        self.assertEqual(rows_of(faces, face, 2), ["1122", "1122", "3344", "3344"])

    def test_each_depth_from_its_own_to_five(self):
        faces = Faces()
        for own in range(6):
            rows = some_rows(80 + own, own, range(10))
            face = face_of_rows(faces, rows)
            self.assertEqual(faces.depth(face), own)
            self.assertEqual(rows_of(faces, face, own), texts(rows))
            for depth in range(own, 6):
                self.assertEqual(rows_of(faces, face, depth), texts(rows_by_quarters(faces, face, depth)))

    def test_against_the_cells(self):
        faces = Faces()
        face = face_of_rows(faces, some_rows(90, 3, range(4)))
        for depth in (3, 4, 5):
            rows = rows_of(faces, face, depth)
            for y in range(2 ** depth):
                for x in range(2 ** depth):
                    self.assertEqual(rows[y][x], str(faces.cell(face, depth, x, y)))

    def test_parts_of_unlike_depths(self):
        faces = Faces()
        flat = face_of_rows(faces, [[1, 2], [3, 4]])
        deep = face_of_rows(faces, some_rows(91, 3, range(10)))
        face = faces.four(flat, faces.plain(5), faces.four(flat, flat, faces.plain(6), deep), flat)
        self.assertEqual(faces.depth(face), 5)
        self.assertEqual(rows_of(faces, face, 5), texts(rows_by_quarters(faces, face, 5)))

    def test_it_tells_a_new_list(self):
        faces = Faces()
        check = face_of_rows(faces, [[1, 2], [2, 1]])
        for face in (faces.plain(1), check, faces.four(check, check, check, faces.plain(1))):
            for depth in (faces.depth(face), 5):
                kept = list(rows_of(faces, face, depth))
                told = rows_of(faces, face, depth)
                self.assertIs(type(told), list)
                self.assertEqual({type(row) for row in told}, {str})
                told[0] = "changed"
                told.append("more")
                self.assertEqual(rows_of(faces, face, depth), kept)

    def test_it_leaves_the_store_alone(self):
        faces = Faces()
        face = face_of_rows(faces, some_rows(92, 3, range(10)))
        before = all_told(faces)
        rows_of(faces, face, 5)
        self.assertEqual(all_told(faces), before)

    def test_a_part_that_stands_often_is_reckoned_once(self):
        faces = Faces()
        face, _, _, _ = deep_pair(faces, 5)
        told = at_once(lambda: rows_of(faces, face, 5), most=3000)
        self.assertEqual(told, texts(rows_by_quarters(faces, face, 5)))

    def test_no_face_ahead_of_bad_depth(self):
        faces = Faces()
        face_of_rows(faces, some_rows(93, 2, range(10)))
        count = met(faces)
        before = all_told(faces)
        for wrong in (-1, -count, count, count + 1, HUGE, -HUGE):
            for depth in (-HUGE, -1, 0, 1, 2, 5, 6, 12, 20, 21, HUGE):
                with self.assertRaises(NoFace):
                    rows_of(faces, wrong, depth)
        self.assertEqual(all_told(faces), before)

    def test_no_face_in_an_empty_store(self):
        for depth in (-1, 0, 5, 6):
            with self.assertRaises(NoFace):
                rows_of(Faces(), 0, depth)

    def test_bad_depth(self):
        faces = Faces()
        told = [faces.plain(1)] + [face_of_rows(faces, some_rows(94, depth, range(10))) for depth in range(1, 6)]
        before = all_told(faces)
        for own, face in enumerate(told):
            self.assertEqual(len(rows_of(faces, face, own)), 2 ** own)
            self.assertEqual(len(rows_of(faces, face, 5)), 32)
            for depth in (-HUGE, -1, own - 1, 6, 7, 12, 20, 21, HUGE):
                with self.assertRaises(BadDepth):
                    rows_of(faces, face, depth)
        self.assertEqual(all_told(faces), before)

    def test_a_picture_deeper_than_five_has_no_rows(self):
        faces = Faces()
        for own in (6, 7, 12):
            face, _, _, _ = deep_pair(faces, own)
            for depth in range(-1, 22):
                with self.assertRaises(BadDepth):
                    rows_of(faces, face, depth)


class TestFaceOf(unittest.TestCase):
    def test_one_cell(self):
        faces = Faces()
        for colour in range(10):
            self.assertEqual(face_of(faces, [str(colour)]), faces.plain(colour))

    def test_the_very_face_of_the_same_quarters(self):
        for size in range(6):
            for seed in range(4):
                rows = some_rows(100 + seed, size, range(2 + 4 * (seed % 3)))
                faces = Faces()
                self.assertEqual(face_of(faces, texts(rows)), face_of_rows(faces, rows))
                faces = Faces()
                face = face_of_rows(faces, rows)
                before = met(faces)
                self.assertEqual(face_of(faces, texts(rows)), face)
                self.assertEqual(met(faces), before)

    def test_one_to_four(self):
        faces = Faces()
        a, b, c, d = [faces.plain(colour) for colour in (1, 2, 3, 4)]
        self.assertEqual(face_of(faces, ["12", "34"]), faces.four(a, b, c, d))

    def test_quarters_in_their_order(self):
        faces = Faces()
        face = face_of(faces, ["0123", "4567", "8901", "2345"])
        told = [face_of(faces, rows) for rows in (["01", "45"], ["23", "67"], ["89", "23"], ["01", "45"])]
        self.assertEqual(list(faces.quarters(face)), told)

    def test_plain_at_any_size(self):
        faces = Faces()
        for colour in range(10):
            for depth in range(6):
                size = 2 ** depth
                self.assertEqual(face_of(faces, [str(colour) * size] * size), faces.plain(colour))

    def test_a_picture_written_larger_is_the_same(self):
        faces = Faces()
        for own in range(6):
            face = face_of(faces, texts(some_rows(110, own, range(10))))
            for depth in range(own, 6):
                self.assertEqual(face_of(faces, rows_of(faces, face, depth)), face)

    def test_turned_rows_have_the_turned_face(self):
        faces = Faces()
        rows = some_rows(111, 4, range(10))
        face = face_of(faces, texts(rows))
        for turning in range(8):
            self.assertEqual(face_of(faces, texts(turned_rows(rows, turning))), faces.turned(face, turning))

    def test_the_rows_are_neither_changed_nor_kept(self):
        faces = Faces()
        for depth in (0, 1, 3):
            rows = texts(some_rows(112 + depth, depth, range(10)))
            kept = list(rows)
            face = face_of(faces, rows)
            self.assertEqual(rows, kept)
            rows[0] = "x"
            rows.append("more")
            self.assertEqual(rows_of(faces, face, depth), kept)
            self.assertEqual(face_of(faces, kept), face)


class TestBadPicture(unittest.TestCase):
    def check(self, rows):
        faces = Faces()
        face_of(faces, ["12", "34"])
        before = all_told(faces)
        kept = list(rows)
        with self.assertRaises(BadPicture):
            face_of(faces, rows)
        self.assertEqual(all_told(faces), before)
        self.assertEqual(rows, kept)
        self.assertEqual(faces.four(0, 0, 0, 1), len(before))

    def test_no_rows(self):
        self.check([])

    def test_empty_rows(self):
        for count in (1, 2, 3, 4, 32):
            self.check([""] * count)

    def test_other_counts(self):
        for count in list(range(2, 70)) + [127, 128]:
            if count not in (1, 2, 4, 8, 16, 32):
                self.check(["5" * count] * count)

    def test_rows_of_unlike_lengths(self):
        for count in (1, 2, 4, 8, 16, 32):
            for length in (0, count - 1, count + 1, 2 * count):
                for place in (0, count // 2, count - 1):
                    rows = ["6" * count] * count
                    rows[place] = "6" * length
                    self.check(rows)

    def test_no_square(self):
        self.check(["11"])
        self.check(["1", "1"])
        self.check(["1111", "1111"])
        self.check(["11", "11", "11", "11"])
        self.check(["11", "1111", "11", "1111"])

    def test_signs_that_are_no_figures(self):
        for sign in SIGNS:
            if not "0" <= sign <= "9":
                self.check([sign])
                self.check(["12", "3" + sign])
                self.check([sign + "1", "11"])
                self.check(["1" * 32] * 31 + ["1" * 16 + sign + "1" * 15])

    def test_numbers_that_are_no_figures(self):
        for rows in (["-1", "11"], ["+1", "11"], [" 1", "11"], ["1 ", "11"], ["1_11", "1111", "1111", "1111"]):
            self.check(rows)

    def test_a_line_end(self):
        self.check(["\n"])
        self.check(["1\n", "11"])
        self.check(["1\n"])

    def test_a_store_that_has_met_nothing_stays_empty(self):
        faces = Faces()
        for rows in ([], [""], ["12", "3x"], ["123", "123", "123"], ["x"]):
            with self.assertRaises(BadPicture):
                face_of(faces, rows)
        self.assertEqual(met(faces), 0)

    def test_words_hold_no_number(self):
        faces = Faces()
        face = face_of(faces, ["12", "34"])
        check_words(self, [
            lambda: face_of(faces, ["37"]), lambda: face_of(faces, ["3", "7"]), lambda: face_of(faces, ["37", "3x"]),
            lambda: rows_of(faces, face, 37), lambda: rows_of(faces, face, 10 ** 5000), lambda: rows_of(faces, 37, 2),
        ])


if __name__ == "__main__":
    unittest.main()
