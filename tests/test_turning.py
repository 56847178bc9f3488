"""Point 5: the eight turnings."""

import unittest

from drawing import turned_rows
from murrine.turning import after, back_of, goes_to

TURNINGS = range(8)
SIZES = (1, 2, 3, 4, 5, 8, 9)
GREAT = (10 ** 6, 10 ** 12 - 1, 10 ** 12, 10 ** 40)


def some_cells(size):
    """A few cells of a picture of a great size: corners, edges, the middle and others."""
    places = [0, 1, 2, size // 3, size // 2, size - 2, size - 1]
    return [(x, y) for x in places for y in places]


class TestGoesTo(unittest.TestCase):
    def test_the_upper_left_of_two_by_two(self):
        ways = [goes_to(turning, 2, 0, 0) for turning in TURNINGS]
        self.assertEqual(ways, [(0, 0), (1, 0), (1, 1), (0, 1), (1, 0), (1, 1), (0, 1), (0, 0)])

    def test_the_upper_middle_of_three_by_three(self):
        ways = [goes_to(turning, 3, 1, 0) for turning in TURNINGS]
        self.assertEqual(ways, [(1, 0), (2, 1), (1, 2), (0, 1), (1, 0), (2, 1), (1, 2), (0, 1)])

    def test_a_knight_cell_of_a_great_picture(self):
        top = 10 ** 12 - 1
        ways = [goes_to(turning, 10 ** 12, 5, 7) for turning in TURNINGS]
        self.assertEqual(ways, [
            (5, 7), (top - 7, 5), (top - 5, top - 7), (7, top - 5),
            (top - 5, 7), (top - 7, top - 5), (5, top - 7), (7, 5),
        ])

    def test_all_cells_against_the_turned_picture(self):
        for size in SIZES:
            rows = [[(x, y) for x in range(size)] for y in range(size)]
            for turning in TURNINGS:
                moved = turned_rows(rows, turning)
                for y in range(size):
                    for x in range(size):
                        new_x, new_y = goes_to(turning, size, x, y)
                        self.assertEqual(moved[new_y][new_x], (x, y), (turning, size))

    def test_each_cell_comes_of_just_one(self):
        for size in SIZES:
            cells = [(x, y) for x in range(size) for y in range(size)]
            for turning in TURNINGS:
                self.assertEqual(sorted(goes_to(turning, size, x, y) for x, y in cells), cells)

    def test_a_great_picture_by_halves(self):
        for size in GREAT:
            for x, y in some_cells(size):
                self.assertEqual(goes_to(0, size, x, y), (x, y))
                self.assertEqual(goes_to(1, size, x, y), (size - 1 - y, x))
                self.assertEqual(goes_to(4, size, x, y), (size - 1 - x, y))
                for turning in TURNINGS:
                    new_x, new_y = goes_to(turning, size, x, y)
                    self.assertTrue(0 <= new_x < size and 0 <= new_y < size)

    def test_one_cell_stays(self):
        for turning in TURNINGS:
            self.assertEqual(goes_to(turning, 1, 0, 0), (0, 0))

    def test_it_tells_a_tuple(self):
        for turning in TURNINGS:
            told = goes_to(turning, 3, 0, 1)
            self.assertIs(type(told), tuple)
            self.assertEqual([type(number) for number in told], [int, int])


class TestAfter(unittest.TestCase):
    def test_the_one_and_then_the_other(self):
        for one in TURNINGS:
            for other in TURNINGS:
                both = after(one, other)
                self.assertIn(both, TURNINGS)
                for size in SIZES + GREAT:
                    cells = some_cells(size) if size > 9 else [(x, y) for x in range(size) for y in range(size)]
                    for x, y in cells:
                        by_two = goes_to(other, size, *goes_to(one, size, x, y))
                        self.assertEqual(goes_to(both, size, x, y), by_two, (one, other, size))

    def test_some_by_hand(self):
        self.assertEqual(after(4, 1), 5)
        self.assertEqual(after(1, 4), 7)
        self.assertEqual(after(3, 3), 2)
        self.assertEqual(after(5, 6), 1)
        self.assertEqual(after(6, 5), 3)

    def test_nought_changes_nothing(self):
        for turning in TURNINGS:
            self.assertEqual(after(0, turning), turning)
            self.assertEqual(after(turning, 0), turning)


class TestBackOf(unittest.TestCase):
    def test_on_either_side(self):
        for turning in TURNINGS:
            self.assertIn(back_of(turning), TURNINGS)
            self.assertEqual(after(turning, back_of(turning)), 0)
            self.assertEqual(after(back_of(turning), turning), 0)

    def test_each_by_hand(self):
        self.assertEqual([back_of(turning) for turning in TURNINGS], [0, 3, 2, 1, 4, 5, 6, 7])

    def test_it_brings_each_cell_back(self):
        for size in (1, 2, 3, 10 ** 12):
            for x, y in [(0, 0), (size - 1, 0), (size // 2, size - 1), (size // 3, size // 2)]:
                for turning in TURNINGS:
                    there = goes_to(turning, size, x, y)
                    self.assertEqual(goes_to(back_of(turning), size, *there), (x, y))


if __name__ == "__main__":
    unittest.main()
