"""Points 10, 13 and 18: deeds as tuples and as lines."""

import unittest

from murrine.deeds import is_deed, read, written
from murrine.errors import BadDeed, BadLine
from wording import check_words

NUMBERS = {"gather": 3, "pull": 2, "bundle": 4, "turn": 2, "cut": 2, "fuse": 2, "sell": 1, "waste": 1}
GREATEST = 999999999999999999
HUGE = 10 ** 5000

GOOD = [
    ("gather", 4, 2, 100), ("gather", 99, 99, 0), ("pull", 3, 1), ("bundle", 1, 2, 3, 4), ("bundle", 7, 7, 7, 7),
    ("turn", 1, 7), ("turn", 1, 8), ("cut", 5, 10 ** 15), ("fuse", 10, 20), ("sell", 1), ("waste", 0),
    ("sell", 10), ("sell", 100200300),
] + [
    (name,) + (number,) * many
    for name, many in NUMBERS.items()
    for number in (0, 1, 9, 10, 10 ** 17, GREATEST - 1, GREATEST)
]

BAD = [
    (), ("",), ("", 1), (" ",), ("gathers", 1, 1, 1), ("Gather", 1, 1, 1), ("gather ", 1, 1, 1), (" sell", 1),
    ("sell 1",), ("sell", "1"), ("undo",), ("redo",), ("twin",), ("rod", 1), ("store",), ("do", 1), ("PULL", 3, 1),
    (1,), (0, 0), (1, 2, 3, 4), (3, "pull", 1), ("pull", "pull", 1), ("1", 1), (HUGE,), (-1,), ("spin", 1, 2),
    ("sell", ""), ("sell", "sell"), ("bundle", 1, 2, 3, "4"), ("bundle", "1", 2, 3, 4),
]


def with_one(name, many, place, told):
    """A deed of this name, with something told in one of its places."""
    numbers = [1] * many
    numbers[place] = told
    return (name,) + tuple(numbers)


class TestIsDeed(unittest.TestCase):
    def test_good_ones(self):
        for deed in GOOD:
            self.assertIs(is_deed(deed), True, deed[0])

    def test_bad_ones(self):
        for deed in BAD:
            self.assertIs(is_deed(deed), False)

    def test_more_and_fewer_numbers(self):
        for name, many in NUMBERS.items():
            for count in range(8):
                self.assertIs(is_deed((name,) + (1,) * count), count == many, (name, count))

    def test_bounds_in_each_place(self):
        for name, many in NUMBERS.items():
            for place in range(many):
                for number in (0, GREATEST):
                    self.assertIs(is_deed(with_one(name, many, place, number)), True)
                for number in (-1, -GREATEST, GREATEST + 1, HUGE, -HUGE):
                    self.assertIs(is_deed(with_one(name, many, place, number)), False)

    def test_a_text_in_each_place(self):
        for name, many in NUMBERS.items():
            for place in range(many):
                for text in ("1", "", " ", "0", "x", name):
                    self.assertIs(is_deed(with_one(name, many, place, text)), False)

    def test_a_number_in_the_names_place(self):
        for many in range(6):
            for number in (0, 1, 5, -1, GREATEST, HUGE):
                self.assertIs(is_deed((number,) + (1,) * many), False)

    def test_a_name_behind_the_numbers(self):
        for name, many in NUMBERS.items():
            self.assertIs(is_deed((1,) * many + (name,)), False)


class TestWritten(unittest.TestCase):
    def test_by_hand(self):
        self.assertEqual(written(("pull", 3, 1)), "pull 3 1")
        self.assertEqual(written(("gather", 0, 12, 1000)), "gather 0 12 1000")
        self.assertEqual(written(("bundle", 1, 20, 300, 4000)), "bundle 1 20 300 4000")
        self.assertEqual(written(("turn", 2, 7)), "turn 2 7")
        self.assertEqual(written(("cut", 2, 999999999999999999)), "cut 2 999999999999999999")
        self.assertEqual(written(("fuse", 10, 0)), "fuse 10 0")
        self.assertEqual(written(("sell", 5)), "sell 5")
        self.assertEqual(written(("waste", 6)), "waste 6")

    def test_one_blank_between_and_no_line_end(self):
        for deed in GOOD:
            line = written(deed)
            self.assertIs(type(line), str)
            self.assertEqual(line.split(" "), [str(told) for told in deed])

    def test_bad_deeds(self):
        more = [(name,) + (1,) * count for name, many in NUMBERS.items() for count in (many - 1, many + 1)]
        beyond = [
            with_one(name, many, place, told)
            for name, many in NUMBERS.items() for place in range(many)
            for told in (-1, GREATEST + 1, HUGE, -HUGE, "1", "", name)
        ]
        for deed in BAD + more + beyond:
            with self.assertRaises(BadDeed):
                written(deed)


class TestRead(unittest.TestCase):
    def check(self, line):
        with self.assertRaises(BadLine):
            read(line)

    def test_by_hand(self):
        self.assertEqual(read("pull 3 1"), ("pull", 3, 1))
        self.assertEqual(read("gather 0 0 0"), ("gather", 0, 0, 0))
        self.assertEqual(read("bundle 1 20 300 4000"), ("bundle", 1, 20, 300, 4000))
        self.assertEqual(read("turn 2 9"), ("turn", 2, 9))
        self.assertEqual(read("cut 2 999999999999999999"), ("cut", 2, GREATEST))
        self.assertEqual(read("fuse 10 0"), ("fuse", 10, 0))
        self.assertEqual(read("sell 5"), ("sell", 5))
        self.assertEqual(read("waste 100"), ("waste", 100))

    def test_what_is_written_is_read_back(self):
        for deed in GOOD:
            told = read(written(deed))
            self.assertEqual(told, deed)
            self.assertIs(type(told), tuple)
            self.assertEqual([type(one) for one in told], [str] + [int] * (len(deed) - 1))

    def test_empty_and_blank_lines(self):
        for line in ("", " ", "  ", "     ", "\n", " \n", "\n\n"):
            self.check(line)

    def test_line_ends(self):
        for line in ("pull 3 1\n", "\npull 3 1", "pull\n3 1", "pull 3\n1", "pull 3 1\n\n", "pull 3 \n1", "pull 3\n 1",
                     "sell 1\nsell 2", "sell\n1", "sell 1\r\n", "sell 1\r", "pull 3 1 \n"):
            self.check(line)

    def test_blanks_more_and_less(self):
        for deed in GOOD:
            line = written(deed)
            self.check(" " + line)
            self.check(line + " ")
            self.check(line.replace(" ", "  ", 1))
            self.check(line.replace(" ", "", 1))
            self.check(line.replace(" ", "\t", 1))
            last = line.rindex(" ")
            self.check(line[:last] + " " + line[last:])

    def test_a_needless_nought(self):
        for line in ("sell 01", "sell 00", "sell 007", "pull 03 1", "pull 3 01", "pull 3 00", "gather 1 02 3",
                     "bundle 1 2 3 04", "sell 0000000000000000001", "sell 0999999999999999999"):
            self.check(line)

    def test_a_nought_by_itself(self):
        self.assertEqual(read("waste 0"), ("waste", 0))
        self.assertEqual(read("pull 0 10"), ("pull", 0, 10))

    def test_signs_and_other_writings_of_numbers(self):
        for word in ("+1", "-1", "-0", "+0", "1.0", "1_0", "1e3", "0x1", "one", "1,000", "'1'", '"1"', "(1)", "1-",
                     "a1", "1a", "", "1)", "*", "~", "I"):
            self.check("sell " + word)
            self.check("pull 1 " + word)
            self.check("pull " + word + " 1")

    def test_each_sign_in_a_numbers_place(self):
        for code in range(ord(" "), ord("~") + 1):
            if not "0" <= chr(code) <= "9":
                self.check("sell " + chr(code))
                self.check("sell 1" + chr(code))
                self.check("sell " + chr(code) + "1")
                self.check("sell 1" + chr(code) + "1")

    def test_other_words(self):
        for line in ("sel 1", "sells 1", "Sell 1", "SELL 1", "1 sell", "1", "1 2 3", "sell", "undo", "redo", "undo 1",
                     "do sell 1", "sell sell", "(sell 1)", "sell,1", "sell(1)", "twin 1", "spin 1 2", "0"):
            self.check(line)

    def test_more_and_fewer_numbers(self):
        for name, many in NUMBERS.items():
            for count in range(8):
                line = " ".join([name] + ["1"] * count)
                if count == many:
                    self.assertEqual(read(line), (name,) + (1,) * many)
                else:
                    self.check(line)

    def test_numbers_out_of_the_bounds(self):
        for name, many in NUMBERS.items():
            for place in range(many):
                for word in ("1000000000000000000", "9999999999999999999", "-1", "1" + "0" * 40, "9" * 6000):
                    words = ["1"] * many
                    words[place] = word
                    self.check(" ".join([name] + words))

    def test_what_is_read_is_written_in_the_same_words(self):
        for line in ("gather 9 12 999999999999999999", "bundle 0 0 0 0", "cut 10 100", "waste 1"):
            self.assertEqual(written(read(line)), line)


class TestWords(unittest.TestCase):
    def test_words_hold_no_number(self):
        check_words(self, [
            lambda: written(("sell", 37, 4)), lambda: written((37,)), lambda: written(("sell", HUGE)),
            lambda: read("sell 37 4"), lambda: read("sell 037"), lambda: read("37"), lambda: read("sell " + "9" * 6000),
        ])


if __name__ == "__main__":
    unittest.main()
