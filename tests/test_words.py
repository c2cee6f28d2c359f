import unittest

from laterways.errors import BadName, BadNumber
from laterways.words import check_name, check_number, is_name, read_number

GOOD_NAMES = ["a", "z", "ab", "m", "ann", "zebra", "abcdefgh", "zzzzzzzz"]
NO_STRINGS = [None, True, False, 0, 1, 1.5, b"ann", ["a"], ("a",), {"a": 1}, {"a"}, ["ann"], object()]


def bad_names():
    found = ["", "abcdefghi", "a" * 100]
    for length in (1, 2, 8):
        for at in range(length):
            for sign in "AZ09_- \n.`{@[~":
                found.append("a" * at + sign + "a" * (length - at - 1))
    return found


class Point3Names(unittest.TestCase):
    def test_names(self):
        for name in GOOD_NAMES:
            self.assertIs(is_name(name), True, name)
            self.assertEqual(check_name(name), name)

    def test_each_letter(self):
        for letter in "abcdefghijklmnopqrstuvwxyz":
            self.assertIs(is_name(letter), True, letter)

    def test_other_strings(self):
        for text in bad_names():
            self.assertIs(is_name(text), False, text)
            with self.assertRaises(BadName) as held:
                check_name(text)
            self.assertEqual(held.exception.name, text)

    def test_letters_of_other_alphabets(self):
        for text in ("\u00e4", "\u0430", "stra\u00dfe", "\uff41"):
            self.assertIs(is_name(text), False, text)

    def test_values_that_are_no_strings(self):
        for value in NO_STRINGS:
            self.assertIs(is_name(value), False, value)
            with self.assertRaises(BadName) as held:
                check_name(value)
            self.assertIs(held.exception.name, value)


class Point3Numbers(unittest.TestCase):
    def refused(self, value, low, high):
        with self.assertRaises(BadNumber) as held:
            check_number("slots", value, low, high)
        self.assertEqual(held.exception.what, "slots")
        self.assertIs(held.exception.value, value)

    def test_bounds(self):
        for low, high in ((0, 5), (1, 48), (-3, 3), (7, 7), (0, 10 ** 30)):
            for value in (low, (low + high) // 2, high):
                self.assertEqual(check_number("slots", value, low, high), value)
            self.refused(low - 1, low, high)
            self.refused(high + 1, low, high)

    def test_no_upper_bound(self):
        for value in (2, 3, 10 ** 9, 10 ** 5000):
            self.assertEqual(check_number("slots", value, 2, None), value)
        self.refused(1, 2, None)
        self.refused(-10 ** 5000, 2, None)

    def test_great_numbers(self):
        self.refused(10 ** 5000, 0, 5)
        self.refused(10 ** 30 + 1, 0, 10 ** 30)

    def test_empty_range(self):
        self.refused(3, 4, 3)
        self.refused(4, 4, 3)

    def test_values_that_are_no_integers(self):
        for value in (True, False, None, "3", "", 3.0, [3], (3,), b"3"):
            self.refused(value, 0, 5)
            self.refused(value, 0, None)

    def test_what_is_told(self):
        for what in ("length", "minute", "least"):
            with self.assertRaises(BadNumber) as held:
                check_number(what, 9, 0, 8)
            self.assertEqual((held.exception.what, held.exception.value), (what, 9))


class Point3ReadNumber(unittest.TestCase):
    def test_numbers(self):
        for value in list(range(0, 1100)) + [9, 10, 99, 999, 1000, 2880, 9999]:
            self.assertEqual(read_number(str(value)), value)
            self.assertIs(read_number(str(value)).__class__, int)

    def test_other_strings(self):
        texts = [
            "", "10000", "12345", "00", "01", "007", "0000", "0123", "00000", "+1", "-1", "-0", "+",
            " 1", "1 ", "1\n", "\n1", "\n", " ", "1 2", "1_0", "1.", "1.0", "a", "1a", "0x1", "1e2", "one",
            "\u0661", "\u00b2", "\uff11",
        ]
        signs = [chr(code) for code in range(32, 127) if chr(code) not in "0123456789"]
        for text in texts + signs + ["1" + sign for sign in signs] + [sign + "1" for sign in signs]:
            with self.assertRaises(BadNumber, msg=text) as held:
                read_number(text)
            self.assertEqual((held.exception.what, held.exception.value), ("number", text))

    def test_values_that_are_no_strings(self):
        for value in (None, True, 7, b"7", ["7"], ["1", "2"]):
            with self.assertRaises(BadNumber) as held:
                read_number(value)
            self.assertEqual(held.exception.what, "number")


if __name__ == "__main__":
    unittest.main()
