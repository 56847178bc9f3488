"""The refusals of murrine.errors."""

import unittest

from murrine import errors
from murrine.errors import BadPage, GlassError
from murrine.faces import Faces
from wording import check_words

NAMES = [
    "BadColour", "NoFace", "TooDeep", "BadDepth", "NoCell", "BadTurn", "BadPicture", "NoRod", "BadThickness",
    "BadLength", "BadSteps", "TooThin", "TooThick", "Twice", "Unlike", "Short", "NothingLeft", "BadDeed", "BadLine",
    "BadPage",
]


class TestClasses(unittest.TestCase):
    def test_glass_error_stands_straight_under_value_error(self):
        self.assertEqual(GlassError.__bases__, (ValueError,))

    def test_each_stands_straight_under_glass_error(self):
        for name in NAMES:
            with self.subTest(name):
                self.assertEqual(getattr(errors, name).__bases__, (GlassError,))

    def test_there_are_no_others(self):
        self.assertEqual(sorted(made.__name__ for made in GlassError.__subclasses__()), sorted(NAMES))
        for name in NAMES:
            with self.subTest(name):
                self.assertEqual(getattr(errors, name).__subclasses__(), [])

    def test_each_is_defined_in_the_file(self):
        for name in NAMES + ["GlassError"]:
            self.assertEqual(getattr(errors, name).__module__, "murrine.errors")

    def test_each_can_be_caught_as_any_refusal(self):
        for name in NAMES:
            refusal = BadPage(1) if name == "BadPage" else getattr(errors, name)("words")
            with self.subTest(name):
                self.assertIsInstance(refusal, GlassError)
                self.assertIsInstance(refusal, ValueError)

    def test_bad_page_tells_the_line(self):
        for at in (1, 2, 37, 10 ** 30):
            self.assertEqual(BadPage(at).at, at)

    def test_a_refusal_of_one_page_keeps_its_own_line(self):
        one, other = BadPage(3), BadPage(4)
        self.assertEqual((one.at, other.at), (3, 4))


class TestWords(unittest.TestCase):
    def test_bad_page_words_hold_no_number(self):
        self.assertNotIn("37", str(BadPage(37)))

    def test_words_of_the_store_hold_no_number(self):
        faces = Faces()
        face = faces.plain(4)
        deep = face
        for _ in range(12):
            deep = faces.four(deep, face, face, faces.plain(5))
        huge = 10 ** 5000
        calls = [
            lambda: faces.plain(10), lambda: faces.plain(-1), lambda: faces.plain(huge),
            lambda: faces.four(face, face, face, 99), lambda: faces.four(deep, deep, deep, face),
            lambda: faces.depth(99), lambda: faces.depth(-huge), lambda: faces.quarters(99),
            lambda: faces.colour(99), lambda: faces.cell(99, 0, 0, 0), lambda: faces.cell(deep, 9, 0, 0),
            lambda: faces.cell(face, 21, 0, 0), lambda: faces.cell(face, huge, 0, 0),
            lambda: faces.cell(face, 2, 4, 0), lambda: faces.cell(face, 2, 0, huge),
            lambda: faces.counts(99, 1), lambda: faces.counts(face, 21), lambda: faces.turned(99, 1),
            lambda: faces.turned(face, 8), lambda: faces.turned(face, huge), lambda: faces.kind(99),
            lambda: faces.turning(99, face), lambda: faces.turning(face, huge), lambda: faces.apart(99, face),
            lambda: faces.apart(face, 99),
        ]
        check_words(self, calls)


if __name__ == "__main__":
    unittest.main()
