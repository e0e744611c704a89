import unittest

from strayjoins.names import is_integer, is_name, least_power, up
from tests.values import no_names, no_strings

LONG = 10 ** 59 + 12345678901234567890


class Integers(unittest.TestCase):
    def test_integers(self):
        for value in (0, 1, -1, 2, 255, LONG, -LONG, 10 ** 60 - 1):
            self.assertIs(is_integer(value), True, value)

    def test_bools_are_none(self):
        self.assertIs(is_integer(True), False)
        self.assertIs(is_integer(False), False)

    def test_other_values_are_none(self):
        for value in no_strings() + ["", "1", "a"]:
            if type(value) is not int:
                self.assertIs(is_integer(value), False, repr(value))

    def test_by_name(self):
        self.assertIs(is_integer(value=3), True)


class Names(unittest.TestCase):
    def test_names(self):
        letters = "abcdefghijklmnopqrstuvwxyz"
        names = list(letters) + ["ab", "zz", "abcdefgh", "zzzzzzzz", letters[3:11], letters[18:]]
        names += ["grounds", "groun", "powers", "powe", "nothin", "nothings", "rest", "frame", "self", "cls", "rail"]
        for name in names:
            self.assertIs(is_name(name), True, name)

    def test_other_values_are_none(self):
        for value in no_names():
            self.assertIs(is_name(value), False, repr(value)[:80])

    def test_every_other_sign(self):
        for code in list(range(32, 127)) + [10]:
            sign = chr(code)
            for text in (sign, "a" + sign, sign + "a", "a" + sign + "b"):
                self.assertIs(is_name(text), "a" <= sign <= "z", repr(text))

    def test_lengths(self):
        for length in range(0, 20):
            self.assertIs(is_name("q" * length), 1 <= length <= 8, length)

    def test_reserved(self):
        for name in ("ground", "power", "nothing"):
            self.assertIs(is_name(name), False, name)

    def test_by_name(self):
        self.assertIs(is_name(value="a"), True)


class Quotients(unittest.TestCase):
    def test_small(self):
        for number in range(-30, 31):
            for by in range(1, 12):
                least = up(number, by)
                self.assertGreaterEqual(least * by, number)
                self.assertLess((least - 1) * by, number)
                self.assertIs(type(least), int)

    def test_borders(self):
        self.assertEqual([up(number, 3) for number in range(-4, 8)], [-1, -1, 0, 0, 0, 1, 1, 1, 2, 2, 2, 3])

    def test_long(self):
        for by in (1, 2, 3, 7, 10 ** 30, LONG - 1, LONG):
            for shift in (-1, 0, 1):
                number = LONG // by * by + shift
                least = up(number, by)
                self.assertTrue(least * by >= number > (least - 1) * by)
        self.assertEqual(up(-LONG, 10 ** 59), -1)

    def test_by_name(self):
        self.assertEqual(up(number=7, by=2), 4)


class Powers(unittest.TestCase):
    def test_small(self):
        for base in range(2, 8):
            for number in range(-5, 700):
                least = least_power(base, number)
                self.assertGreaterEqual(base ** least, number)
                self.assertTrue(least == 0 or base ** (least - 1) < number)
                self.assertIs(type(least), int)

    def test_not_above_one(self):
        for number in (1, 0, -1, -LONG):
            self.assertEqual(least_power(2, number), 0)

    def test_borders(self):
        for base in (2, 3, 4, 10):
            for power in range(2, 60):
                self.assertEqual(least_power(base, base ** power - 1), power)
                self.assertEqual(least_power(base, base ** power), power)
                self.assertEqual(least_power(base, base ** power + 1), power + 1)

    def test_long(self):
        self.assertEqual(least_power(10, 10 ** 59), 59)
        self.assertEqual(least_power(10, 10 ** 59 + 1), 60)
        self.assertEqual(least_power(2, 2 ** 199), 199)
        self.assertEqual(least_power(2, 2 ** 199 + 1), 200)
        self.assertEqual(least_power(4, LONG), 98)
        self.assertEqual(least_power(LONG, LONG), 1)
        self.assertEqual(least_power(LONG, LONG + 1), 2)

    def test_by_name(self):
        self.assertEqual(least_power(base=3, number=10), 3)


if __name__ == "__main__":
    unittest.main()
