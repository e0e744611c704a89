import unittest

from strayjoins.boards import Board
from strayjoins.errors import InvalidWord, NoLeg
from strayjoins.frames import Frame
from strayjoins.legs import Driver, Listener
from strayjoins.tables import Table
from strayjoins.words import Word
from tests.values import no_integers_between, no_names, no_strings

FRAME = Frame(Driver("a"), Driver("b"), Driver("rest"), Listener("c"), top=2, ground=True, power=True)
OTHER = Frame(Driver("a"), Driver("b"), Driver("rest"), Listener("c"), top=2, ground=True)


def name_of(test, call, *args, **more):
    with test.assertRaises(InvalidWord) as caught:
        call(*args, **more)
    return caught.exception.name


class Making(unittest.TestCase):
    def test_levels(self):
        for word in (Word(FRAME, a=0, b=1), Word.of(FRAME, {"b": 1, "a": 0}), Word(frame=FRAME, b=1, a=0),
                     Word.of(frame=FRAME, levels={"a": 0, "b": 1, "rest": 2})):
            self.assertEqual(word.frame, FRAME)
            self.assertEqual([word["a"], word["b"], word["rest"]], [0, 1, 2])

    def test_rails_and_listeners(self):
        for word in (Word(FRAME), Word(FRAME, a=0, b=0, rest=0)):
            self.assertEqual([word["c"], word["ground"], word["power"]], [2, 0, 2])

    def test_rest(self):
        word = Word.rest(FRAME)
        self.assertEqual([word[name] for name in FRAME.members], [2, 2, 2, 0, 2, 2])
        self.assertEqual(word, Word(FRAME))
        self.assertEqual(Word.rest(frame=FRAME), Word.of(FRAME, {}))
        self.assertEqual(Word.rest(Frame()).low, ())

    def test_lone(self):
        self.assertEqual(Word.lone(FRAME, "b"), Word(FRAME, b=0))
        for level in (0, 1, 2):
            self.assertEqual(Word.lone(FRAME, "b", level), Word(FRAME, b=level))
        self.assertEqual(Word.lone(frame=FRAME, name="rest", level=1), Word(FRAME, rest=1))

    def test_drivers_called_as_parameters(self):
        frame = Frame(Driver("frame"), Driver("self"), Driver("cls"), Driver("levels"), Driver("level"), Driver("name"))
        levels = {"frame": 0, "self": 0, "cls": 0, "levels": 0, "level": 0, "name": 0}
        word = Word.of(frame, levels)
        self.assertEqual(word.low, ("cls", "frame", "level", "levels", "name", "self"))
        self.assertEqual(Word(frame, levels=0, name=0).low, ("levels", "name"))
        for name in levels:
            self.assertEqual(Word.lone(frame, name).low, (name,))
        self.assertEqual(str(word & Word.lone(frame, "self")), "cls=0 frame=0 level=0 levels=0 name=0 self=0")

    def test_the_dict_stays_and_may_change(self):
        levels = {"b": 1, "a": 0}
        word = Word.of(FRAME, levels)
        self.assertEqual(list(levels.items()), [("b", 1), ("a", 0)])
        levels["b"] = 0
        levels["zz"] = 1
        self.assertEqual([word["a"], word["b"]], [0, 1])
        self.assertEqual(str(word), "a=0 b=1")


class MakingErrors(unittest.TestCase):
    def test_no_dict(self):
        for value in no_strings() + ["", "a", "a=0"]:
            if not isinstance(value, dict):
                self.assertIs(name_of(self, Word.of, FRAME, value), None)

    def test_keys_that_are_no_strings(self):
        for key in (None, 0, True, (), ("a",), 10 ** 59):
            self.assertIs(name_of(self, Word.of, FRAME, {key: 0}), None)
            self.assertIs(name_of(self, Word.of, FRAME, {"a": 0, key: 0}), None)

    def test_no_string_ahead_of_names(self):
        self.assertIs(name_of(self, Word.of, FRAME, {"A": 0, 7: 0, "a": 9}), None)
        self.assertIs(name_of(self, Word.of, FRAME, {"a": 9, None: 0}), None)

    def test_keys_that_are_no_drivers(self):
        for key in ("c", "ground", "power", "nothing", "d", "", "A", "a ", "frame"):
            self.assertEqual(name_of(self, Word.of, FRAME, {key: 0}), key)
            self.assertEqual(name_of(self, Word.of, FRAME, {"zzz": 0, key: 2, "a": 0}), min(key, "zzz"))
        self.assertEqual(name_of(self, Word, FRAME, c=2), "c")
        self.assertEqual(name_of(self, Word, FRAME, power=2), "power")

    def test_levels(self):
        for value in no_integers_between(0, 2):
            self.assertEqual(name_of(self, Word.of, FRAME, {"b": value}), "b")
            self.assertEqual(name_of(self, Word, FRAME, rest=value, a=0), "rest")
        self.assertEqual(name_of(self, Word, Frame(Driver("a")), a=2), "a")
        self.assertEqual(Word(Frame(Driver("a"), top=3), a=3), Word.rest(Frame(Driver("a"), top=3)))

    def test_the_least_key(self):
        self.assertEqual(name_of(self, Word.of, FRAME, {"rest": 5, "b": 5, "a": 0}), "b")
        self.assertEqual(name_of(self, Word.of, FRAME, {"c": 0, "b": True, "rest": 9}), "b")
        self.assertEqual(name_of(self, Word.of, FRAME, {"rest": 0, "d": 0, "c": 1}), "c")
        self.assertEqual(name_of(self, Word.of, FRAME, {"a": 0, "B": 0, "b": 7}), "B")

    def test_lone(self):
        for value in no_names() + ["c", "d"]:
            self.assertIs(name_of(self, Word.lone, FRAME, value), value)
        for value in no_integers_between(0, 2):
            self.assertEqual(name_of(self, Word.lone, FRAME, "a", value), "a")
        self.assertEqual(name_of(self, Word.lone, FRAME, "d", 9), "d")


class Looking(unittest.TestCase):
    def test_no_element(self):
        word = Word(FRAME, a=0)
        for value in no_names() + ["d", "ab"]:
            if not isinstance(value, str) or value not in FRAME.rails:
                with self.assertRaises(NoLeg) as caught:
                    word[value]
                self.assertIs(caught.exception.name, value)

    def test_rails_that_are_not_there(self):
        self.assertRaises(NoLeg, lambda: Word(OTHER)["power"])
        self.assertEqual(Word(OTHER)["ground"], 0)
        self.assertRaises(NoLeg, lambda: Word(Frame(power=True))["ground"])
        self.assertEqual(Word(Frame(power=True, top=3))["power"], 3)

    def test_low_and_truth(self):
        for levels, low in (({}, ()), ({"a": 2, "b": 2}, ()), ({"b": 1}, ("b",)), ({"rest": 0, "a": 1}, ("a", "rest"))):
            word = Word.of(FRAME, levels)
            self.assertEqual(word.low, low)
            self.assertIs(bool(word), bool(low))
        self.assertIs(bool(Word(Frame())), False)

    def test_equal(self):
        self.assertIs(Word(FRAME, a=0) == Word(FRAME, a=0, b=2), True)
        self.assertIs(Word(FRAME, a=0) != Word(FRAME, a=0, b=2), False)
        again = Frame(Listener("c"), Driver("rest"), Driver("b"), Driver("a"), top=2, ground=True, power=True)
        self.assertIs(Word(FRAME, a=0) == Word(again, a=0), True)
        for other in (Word(FRAME, a=1), Word(FRAME, b=0), Word(FRAME, a=0, b=0), Word(FRAME), Word(OTHER, a=0)):
            self.assertIs(Word(FRAME, a=0) == other, False)
        for value in no_strings() + ["a=0", {"a": 0}]:
            self.assertIs(Word(FRAME, a=0) == value, False)
            self.assertIs(value == Word(FRAME, a=0), False)

    def test_strings(self):
        for levels, text in (({}, "rest"), ({"b": 1, "a": 0}, "a=0 b=1"), ({"rest": 0}, "rest=0"), ({"b": 2}, "rest")):
            self.assertEqual(str(Word.of(FRAME, levels)), text)
            self.assertEqual(repr(Word.of(FRAME, levels)), f"Word({text})")


class Lesser(unittest.TestCase):
    def test_and(self):
        one, other = Word(FRAME, a=0, b=1), Word(FRAME, b=0, rest=1)
        self.assertEqual(one & other, Word(FRAME, a=0, b=0, rest=1))
        self.assertEqual(other & one, one & other)
        self.assertEqual(one & Word(FRAME), one)
        self.assertEqual((one & other)["c"], 2)
        self.assertEqual((one, other), (Word(FRAME, a=0, b=1), Word(FRAME, b=0, rest=1)))
        for low in range(3):
            for high in range(3):
                self.assertEqual((Word(FRAME, a=low) & Word(FRAME, a=high))["a"], min(low, high))

    def test_errors(self):
        word = Word(FRAME, a=0)
        others = no_strings() + ["a=0", {"a": 0}, Word(OTHER, a=0), FRAME, Board(FRAME), Table(FRAME)]
        for value in others:
            self.assertIs(name_of(self, lambda: word & value), None)


if __name__ == "__main__":
    unittest.main()
