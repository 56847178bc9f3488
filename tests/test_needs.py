"""Points 7 and 8: kinds of parts, and what is needed beside had faces."""

import random
import unittest

from drawing import at_once, deep_pair, face_of_rows, met, some_rows, texts, turned_rows
from murrine.errors import NoFace
from murrine.faces import Faces
from murrine.needs import needed, part_kinds
from murrine.pictures import face_of

TURNINGS = range(8)


def parts(faces, face):
    """All parts of a picture by the words of point 7, each as often as it stands there."""
    if faces.colour(face) is not None:
        return []
    return [face] + [part for quarter in faces.quarters(face) for part in parts(faces, quarter)]


def by_words(faces, face, have):
    """What is needed by the words of point 8, not in order."""
    kinds = [min(faces.turned(one, turning) for turning in TURNINGS) for one in have]
    own = min(faces.turned(face, turning) for turning in TURNINGS)
    if faces.colour(face) is not None or own in kinds:
        return set()
    return {own}.union(*[by_words(faces, quarter, have) for quarter in faces.quarters(face)])


def in_order(faces, kinds):
    """Kinds by depth, the greater first, and by number."""
    by_depth = {}
    for kind in kinds:
        by_depth.setdefault(faces.depth(kind), []).append(kind)
    return [kind for depth in sorted(by_depth)[::-1] for kind in sorted(by_depth[depth])]


def some_faces(faces):
    """Pictures of depths 0 to 4, with and without parts of a kind."""
    told = [faces.plain(1)] + [face_of_rows(faces, some_rows(seed, seed % 5, range(2 + seed % 3)))
                               for seed in range(200, 220)]
    for seed in range(4):
        rows = some_rows(seed, 2, range(3))
        four = [face_of_rows(faces, turned_rows(rows, turning)) for turning in (0, 1, 4, 7)]
        told.append(faces.four(*four))
        told.append(faces.four(told[-1], four[2], faces.plain(9), told[3]))
    return told


class TestPartKinds(unittest.TestCase):
    def test_a_plain_picture_has_none(self):
        faces = Faces()
        for colour in range(10):
            self.assertEqual(part_kinds(faces, faces.plain(colour)), [])

    def test_of_depth_one_itself(self):
        faces = Faces()
        for turning in TURNINGS:
            face = face_of_rows(faces, turned_rows([[1, 2], [3, 4]], turning))
            self.assertEqual(part_kinds(faces, face), [faces.kind(face)])

    def test_kinds_that_are_not_the_parts_own_numbers(self):
        faces = Faces()
        first = face_of(faces, ["12", "34"])
        turned = faces.turned(first, 5)
        self.assertNotEqual(turned, first)
        whole = faces.four(turned, turned, turned, faces.plain(0))
        self.assertEqual(part_kinds(faces, turned), [first])
        self.assertEqual(part_kinds(faces, whole), [faces.kind(whole), first])
        self.assertEqual(part_kinds(faces, faces.turned(whole, 3)), [faces.kind(whole), first])

    def test_each_kind_once(self):
        faces = Faces()
        rows = [[1, 2], [3, 4]]
        four = [face_of_rows(faces, turned_rows(rows, turning)) for turning in (0, 3, 4, 6)]
        whole = faces.four(*four)
        self.assertEqual(part_kinds(faces, whole), [faces.kind(whole), faces.kind(four[0])])

    def test_against_the_words(self):
        faces = Faces()
        for face in some_faces(faces):
            kinds = {min(faces.turned(part, turning) for turning in TURNINGS) for part in parts(faces, face)}
            self.assertEqual(part_kinds(faces, face), in_order(faces, kinds))

    def test_the_greater_depth_first_and_of_one_depth_the_lesser_number(self):
        faces = Faces()
        low = [face_of(faces, rows) for rows in (["12", "12"], ["34", "55"], ["67", "89"])]
        mid = [faces.four(low[2], low[0], low[2], low[1]), faces.four(low[1], low[1], low[1], low[0])]
        late = face_of(faces, ["00", "09"])
        whole = faces.four(mid[1], late, mid[0], low[1])
        told = part_kinds(faces, whole)
        self.assertEqual([faces.depth(kind) for kind in told], [3, 2, 2, 1, 1, 1, 1])
        self.assertEqual(told[1:3], sorted(told[1:3]))
        self.assertEqual(told[3:], sorted(told[3:]))
        self.assertEqual(set(told), {faces.kind(face) for face in low + mid + [late, whole]})

    def test_parts_of_unlike_depths(self):
        faces = Faces()
        flat = face_of(faces, ["12", "21"])
        deep = faces.four(flat, flat, faces.plain(3), flat)
        whole = faces.four(flat, deep, faces.plain(4), faces.plain(1))
        self.assertEqual(part_kinds(faces, whole), [faces.kind(face) for face in (whole, deep, flat)])

    def test_a_part_that_stands_often_is_reckoned_once(self):
        faces = Faces()
        one, other, _, _ = deep_pair(faces, 12)
        told = at_once(lambda: part_kinds(faces, one))
        self.assertEqual([faces.depth(kind) for kind in told], [12] + [d for d in range(11, 0, -1) for _ in (1, 2)])
        self.assertEqual(told, sorted(set(told), key=lambda kind: (-faces.depth(kind), kind)))
        self.assertIn(faces.kind(one), told)
        self.assertNotIn(faces.kind(other), told)
        at_once(lambda: part_kinds(faces, one), most=5000)

    def test_many_unlike_parts(self):
        faces = Faces()
        face = face_of(faces, texts(some_rows(230, 5, range(10))))
        kinds = {faces.kind(part) for part in parts(faces, face)}
        self.assertEqual(part_kinds(faces, face), in_order(faces, kinds))
        self.assertGreater(len(kinds), 300)

    def test_it_tells_a_new_list(self):
        faces = Faces()
        for face in (faces.plain(1), face_of(faces, ["12", "21"]), face_of(faces, texts(some_rows(231, 3, range(3))))):
            kept = list(part_kinds(faces, face))
            told = part_kinds(faces, face)
            self.assertIs(type(told), list)
            told.append(77)
            told.reverse()
            self.assertEqual(part_kinds(faces, face), kept)

    def test_faces_stay_what_they_were(self):
        faces = Faces()
        told = some_faces(faces)
        before = [(faces.depth(face), faces.quarters(face)) for face in told]
        for face in told:
            part_kinds(faces, face)
        self.assertEqual([(faces.depth(face), faces.quarters(face)) for face in told], before)


class TestNeeded(unittest.TestCase):
    def test_nothing_had(self):
        faces = Faces()
        for face in some_faces(faces):
            self.assertEqual(needed(faces, face, []), part_kinds(faces, face))

    def test_of_a_plain_picture_nothing(self):
        faces = Faces()
        plain, other, flat = faces.plain(1), faces.plain(2), face_of(faces, ["12", "21"])
        for have in ([], [plain], [other], [flat], [flat, other, flat]):
            self.assertEqual(needed(faces, plain, have), [])

    def test_itself_had(self):
        faces = Faces()
        for face in some_faces(faces):
            for turning in TURNINGS:
                self.assertEqual(needed(faces, face, [faces.turned(face, turning)]), [])

    def test_all_parts_had(self):
        faces = Faces()
        for face in some_faces(faces):
            kinds = part_kinds(faces, face)
            self.assertEqual(needed(faces, face, kinds), [])
            self.assertEqual(needed(faces, face, kinds[1:]), kinds[:1])

    def test_a_turned_one_had(self):
        faces = Faces()
        part = face_of(faces, ["12", "34"])
        other = face_of(faces, ["56", "78"])
        whole = faces.four(faces.turned(part, 1), faces.turned(part, 6), other, faces.plain(1))
        for turning in TURNINGS:
            have = [faces.turned(part, turning)]
            self.assertEqual(needed(faces, whole, have), [faces.kind(whole), faces.kind(other)])

    def test_plain_ones_had_change_nothing(self):
        faces = Faces()
        plain = [faces.plain(colour) for colour in range(10)]
        for face in some_faces(faces):
            self.assertEqual(needed(faces, face, plain), part_kinds(faces, face))

    def test_one_had_twice(self):
        faces = Faces()
        part = face_of(faces, ["12", "34"])
        whole = faces.four(part, part, part, faces.plain(1))
        have = [part, part, faces.turned(part, 2)]
        self.assertEqual(needed(faces, whole, have), [faces.kind(whole)])

    def test_what_stands_in_no_part_changes_nothing(self):
        faces = Faces()
        face = face_of(faces, texts(some_rows(240, 3, range(3))))
        alien = face_of(faces, ["98", "76"])
        deeper = faces.four(face, alien, alien, alien)
        self.assertEqual(needed(faces, face, [alien, deeper]), part_kinds(faces, face))

    def test_a_part_of_a_had_one_is_needed_where_it_stands_elsewhere(self):
        faces = Faces()
        low = face_of(faces, ["12", "34"])
        only = face_of(faces, ["56", "78"])
        mid = faces.four(low, only, low, faces.plain(0))
        whole = faces.four(mid, mid, faces.turned(low, 3), mid)
        self.assertEqual(needed(faces, whole, [mid]), [faces.kind(whole), faces.kind(low)])
        other = faces.four(mid, mid, faces.plain(3), mid)
        self.assertEqual(needed(faces, other, [mid]), [faces.kind(other)])

    def test_against_the_words(self):
        faces = Faces()
        chance = random.Random(5)
        told = some_faces(faces)
        for face in told:
            inside = parts(faces, face) + [faces.plain(2)]
            for many in (1, 1, 2, 3, 6):
                have = [faces.turned(chance.choice(inside), chance.randrange(8)) for _ in range(many)]
                have.append(chance.choice(told))
                self.assertEqual(needed(faces, face, have), in_order(faces, by_words(faces, face, have)))

    def test_the_had_faces_stay_as_they_were(self):
        faces = Faces()
        part = face_of(faces, ["12", "34"])
        whole = faces.four(part, faces.plain(5), faces.plain(1), face_of(faces, ["87", "65"]))
        have = [faces.turned(part, 5), faces.plain(5), faces.turned(part, 5)]
        kept = list(have)
        told = needed(faces, whole, have)
        self.assertEqual(have, kept)
        have.clear()
        self.assertEqual(needed(faces, whole, kept), told)
        told.clear()
        self.assertEqual(have, [])
        self.assertEqual(len(needed(faces, whole, kept)), 2)

    def test_it_tells_a_new_list(self):
        faces = Faces()
        face = face_of(faces, ["12", "34"])
        for have in ([], [face]):
            told = needed(faces, face, have)
            self.assertIs(type(told), list)
            self.assertIsNot(told, have)

    def test_deep_ones_at_once(self):
        faces = Faces()
        one, other, _, _ = deep_pair(faces, 12)
        half, _, _, _ = deep_pair(faces, 6)
        told = at_once(lambda: needed(faces, one, [half]))
        self.assertEqual(told, [kind for kind in part_kinds(faces, one) if kind != faces.kind(half)])
        both = faces.quarters(one)[:2]
        self.assertEqual(at_once(lambda: needed(faces, one, list(both))), [faces.kind(one)])
        self.assertEqual(at_once(lambda: needed(faces, other, [one])), part_kinds(faces, other))

    def test_no_face(self):
        faces = Faces()
        face = face_of(faces, ["12", "34"])
        for wrong in (-1, met(faces) + 8, 10 ** 40):
            with self.assertRaises(NoFace):
                part_kinds(faces, wrong)
            with self.assertRaises(NoFace):
                needed(faces, face, [wrong])


if __name__ == "__main__":
    unittest.main()
