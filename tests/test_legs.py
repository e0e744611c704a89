import unittest

from strayjoins.errors import InvalidFrame
from strayjoins.legs import Driver, Leg, Listener
from tests.values import no_names, no_strings

TOLD = ((Leg, "leg", "Leg", False), (Driver, "driver", "Driver", True), (Listener, "listener", "Listener", False))


class Legs(unittest.TestCase):
    def test_attributes(self):
        for kind, word, _, drives in TOLD:
            for name in ("a", "z", "abcdefgh", "rest"):
                leg = kind(name)
                self.assertEqual(leg.name, name)
                self.assertEqual(leg.KIND, word)
                self.assertEqual(kind.KIND, word)
                self.assertIs(leg.drives, drives)
                self.assertEqual(kind(name=name).name, name)

    def test_strings(self):
        for kind, word, title, _ in TOLD:
            self.assertEqual(str(kind("abc")), word + " abc")
            self.assertEqual(repr(kind("abc")), title + "(abc)")
            self.assertEqual(f"{[kind('b')]}", f"[{title}(b)]")

    def test_classes(self):
        self.assertTrue(issubclass(Driver, Leg))
        self.assertTrue(issubclass(Listener, Leg))
        self.assertFalse(issubclass(Driver, Listener))
        self.assertFalse(issubclass(Listener, Driver))

    def test_equal(self):
        for kind, _, _, _ in TOLD:
            for other, _, _, _ in TOLD:
                self.assertIs(kind("a") == other("a"), kind is other, (kind, other))
                self.assertIs(kind("a") != other("a"), kind is not other, (kind, other))
                self.assertIs(kind("a") == other("b"), False)

    def test_not_equal_to_other_values(self):
        for kind, word, title, _ in TOLD:
            leg = kind("a")
            for value in no_strings() + ["a", word + " a", title + "(a)"]:
                if type(value) is not kind:
                    self.assertIs(leg == value, False, repr(value)[:80])
                    self.assertIs(value == leg, False, repr(value)[:80])

    def test_wrong_names(self):
        for kind, _, _, _ in TOLD:
            for value in no_names():
                with self.assertRaises(InvalidFrame) as caught:
                    kind(value)
                self.assertEqual(caught.exception.reason, "name")

    def test_methods_stand_in_each_class(self):
        for kind, _, _, _ in TOLD:
            self.assertLessEqual({"drives", "__eq__", "__str__", "__repr__"}, set(vars(kind)))


if __name__ == "__main__":
    unittest.main()
