import unittest

from strayjoins.errors import InvalidFrame, NoLeg
from strayjoins.frames import Frame
from strayjoins.legs import Driver, Leg, Listener
from tests.values import no_integers_between, no_names, no_strings, no_tuples_or_lists

LETTERS = "abcdefghijklmnopqrstuvwxyz"
MANY = [Driver("x" + letter) for letter in LETTERS] + [Listener("y" + letter) for letter in LETTERS]


def reason_of(test, call, *args, **more):
    with test.assertRaises(InvalidFrame) as caught:
        call(*args, **more)
    return caught.exception.reason


class Making(unittest.TestCase):
    def test_defaults(self):
        for frame in (Frame(), Frame.of([]), Frame.of(()), Frame.of(legs=[])):
            self.assertEqual((frame.top, frame.ground, frame.power), (1, False, False))
            self.assertIs(frame.ground, False)
            self.assertIs(frame.power, False)
            self.assertEqual((frame.legs, frame.names, frame.drivers, frame.listeners), ((), (), (), ()))
            self.assertEqual((frame.rails, frame.members, len(frame)), ((), (), 0))

    def test_all_arguments(self):
        legs = [Listener("m"), Driver("b"), Driver("z"), Listener("a")]
        for made in (Frame(*legs, top=3, ground=True, power=True), Frame.of(legs, top=3, ground=True, power=True),
                     Frame.of(tuple(legs), top=3, ground=True, power=True)):
            self.assertEqual((made.top, made.ground, made.power), (3, True, True))
            self.assertEqual(made.legs, (Listener("a"), Driver("b"), Listener("m"), Driver("z")))
            self.assertEqual(made.names, ("a", "b", "m", "z"))
            self.assertEqual(made.drivers, ("b", "z"))
            self.assertEqual(made.listeners, ("a", "m"))
            self.assertEqual(made.rails, ("ground", "power"))
            self.assertEqual(made.members, ("a", "b", "ground", "m", "power", "z"))
            self.assertEqual(len(made), 4)
            for row in (made.legs, made.names, made.drivers, made.listeners, made.rails, made.members):
                self.assertIs(type(row), tuple)

    def test_one_rail(self):
        self.assertEqual(Frame(ground=True).rails, ("ground",))
        self.assertEqual(Frame(power=True).rails, ("power",))
        self.assertEqual(Frame(Driver("q"), ground=True).members, ("ground", "q"))
        self.assertEqual(Frame(Driver("q"), power=True).members, ("power", "q"))
        self.assertEqual(Frame(Driver("q"), power=True).power, True)
        self.assertEqual(Frame(Driver("q"), power=True).ground, False)

    def test_every_top(self):
        for top in (1, 2, 3):
            self.assertEqual(Frame(top=top).top, top)
            self.assertEqual(Frame.of((), top=top).top, top)

    def test_options_by_name_alone(self):
        self.assertRaises(TypeError, Frame.of, [], 2)

    def test_numbers_of_legs(self):
        self.assertEqual(Frame.MOST, 40)
        for many in (0, 1, 2, 39, 40):
            self.assertEqual(len(Frame(*MANY[:many])), many)
            self.assertEqual(len(Frame.of(MANY[:many])), many)
        for many in (41, 42, 52):
            self.assertEqual(reason_of(self, Frame, *MANY[:many]), "many")
            self.assertEqual(reason_of(self, Frame.of, MANY[:many]), "many")

    def test_a_list_may_change_later(self):
        legs = [Driver("b"), Driver("a")]
        frame = Frame.of(legs)
        self.assertEqual(legs, [Driver("b"), Driver("a")])
        legs.append(Driver("c"))
        legs[0] = Listener("d")
        self.assertEqual(frame.names, ("a", "b"))
        self.assertEqual(frame.legs, (Driver("a"), Driver("b")))


class Errors(unittest.TestCase):
    def test_legs(self):
        for value in no_strings() + ["", "a"]:
            if not isinstance(value, (Driver, Listener)):
                self.assertEqual(reason_of(self, Frame, value), "legs")
                self.assertEqual(reason_of(self, Frame, Driver("b"), value), "legs")
                self.assertEqual(reason_of(self, Frame.of, [Driver("b"), value]), "legs")
        self.assertEqual(reason_of(self, Frame, Leg("a")), "legs")
        self.assertEqual(reason_of(self, Frame, [Driver("a")]), "legs")

    def test_of_takes_lists_and_tuples(self):
        for value in no_tuples_or_lists():
            self.assertEqual(reason_of(self, Frame.of, value), "legs")
            self.assertEqual(reason_of(self, Frame.of, value, top=0, ground=1), "legs")

    def test_name(self):
        for one, other in ((Driver("a"), Driver("a")), (Driver("a"), Listener("a")), (Listener("a"), Listener("a"))):
            self.assertEqual(reason_of(self, Frame, one, Driver("b"), other), "name")
            self.assertEqual(reason_of(self, Frame.of, (one, other)), "name")

    def test_top(self):
        for value in no_integers_between(1, 3):
            self.assertEqual(reason_of(self, Frame, top=value), "top")
            self.assertEqual(reason_of(self, Frame.of, [Driver("a")], top=value), "top")

    def test_rails(self):
        for value in no_strings() + ["", "a"]:
            if not isinstance(value, bool):
                self.assertEqual(reason_of(self, Frame, ground=value), "rails")
                self.assertEqual(reason_of(self, Frame, power=value), "rails")
                self.assertEqual(reason_of(self, Frame.of, [], ground=True, power=value), "rails")

    def test_the_first_reason_is_told(self):
        wrong = {"legs": Leg("w"), "many": MANY[:41], "name": [Driver("a"), Driver("a")], "top": True, "rails": 0}
        for code in range(1, 32):
            there = [reason for at, reason in enumerate(wrong) if code >> at & 1]
            legs = [Driver("q")]
            options = {}
            if "legs" in there:
                legs.insert(0, wrong["legs"])
            if "many" in there:
                legs += wrong["many"]
            if "name" in there:
                legs += wrong["name"]
            if "top" in there:
                options["top"] = wrong["top"]
            if "rails" in there:
                options["power"] = wrong["rails"]
            self.assertEqual(reason_of(self, Frame, *legs, **options), there[0], there)
            self.assertEqual(reason_of(self, Frame.of, legs, **options), there[0], there)

    def test_forty_legs_of_one_name(self):
        self.assertEqual(reason_of(self, Frame, *[Driver("a")] * 40), "name")
        self.assertEqual(reason_of(self, Frame, *[Driver("a")] * 41), "many")


class Looking(unittest.TestCase):
    def setUp(self):
        self.frame = Frame(Driver("b"), Listener("a"), top=2, ground=True, power=True)

    def test_in(self):
        self.assertIs("a" in self.frame, True)
        self.assertIs("b" in self.frame, True)
        for value in no_names() + ["c", "ab", "ba"]:
            self.assertIs(value in self.frame, False, repr(value)[:80])

    def test_items(self):
        self.assertEqual(self.frame["a"], Listener("a"))
        self.assertEqual(self.frame["b"], Driver("b"))
        for value in no_names() + ["c", "ab"]:
            with self.assertRaises(NoLeg) as caught:
                self.frame[value]
            self.assertIs(caught.exception.name, value)

    def test_equal(self):
        one = Frame(Driver("a"), Listener("b"), Driver("c"), top=2, ground=True)
        same = Frame.of((Driver("c"), Driver("a"), Listener("b")), top=2, ground=True)
        self.assertIs(one == same, True)
        self.assertIs(one != same, False)
        others = [
            Frame(Driver("a"), Listener("b"), Driver("c"), top=3, ground=True),
            Frame(Driver("a"), Listener("b"), Driver("c"), top=2),
            Frame(Driver("a"), Listener("b"), Driver("c"), top=2, power=True),
            Frame(Driver("a"), Listener("b"), Driver("c"), top=2, ground=True, power=True),
            Frame(Driver("a"), Listener("b"), Listener("c"), top=2, ground=True),
            Frame(Driver("a"), Listener("b"), Driver("d"), top=2, ground=True),
            Frame(Driver("a"), Listener("b"), top=2, ground=True),
            Frame(Driver("a"), Listener("b"), Driver("c"), Driver("d"), top=2, ground=True),
        ]
        for other in others:
            self.assertIs(one == other, False)
            self.assertIs(other == one, False)
        self.assertIs(Frame() == Frame(), True)

    def test_not_equal_to_other_values(self):
        for value in no_strings() + ["a"]:
            if not isinstance(value, Frame):
                self.assertIs(self.frame == value, False)
                self.assertIs(Frame() == value, False)
                self.assertIs(value == Frame(), False)


class AddingAndTaking(unittest.TestCase):
    def setUp(self):
        self.frame = Frame(Driver("b"), Listener("d"), top=3, power=True)

    def same(self):
        self.assertEqual(self.frame, Frame(Driver("b"), Listener("d"), top=3, power=True))

    def test_add(self):
        self.assertEqual(self.frame + Driver("c"), Frame(Driver("b"), Driver("c"), Listener("d"), top=3, power=True))
        self.assertEqual((self.frame + Listener("a")).names, ("a", "b", "d"))
        self.assertEqual((Frame(ground=True, top=2) + Listener("a")), Frame(Listener("a"), ground=True, top=2))
        self.same()

    def test_add_errors(self):
        for value in no_strings() + ["a", Leg("a")]:
            if not isinstance(value, (Driver, Listener)):
                self.assertEqual(reason_of(self, lambda: self.frame + value), "legs")
        self.assertEqual(reason_of(self, lambda: self.frame + Driver("b")), "name")
        self.assertEqual(reason_of(self, lambda: self.frame + Driver("d")), "name")
        full = Frame(*MANY[:40])
        self.assertEqual(reason_of(self, lambda: full + Driver("a")), "many")
        self.assertEqual(reason_of(self, lambda: full + MANY[0]), "many")
        self.assertEqual(reason_of(self, lambda: full + "a"), "legs")
        self.assertEqual(len(full), 40)
        self.same()

    def test_take(self):
        self.assertEqual(self.frame - "b", Frame(Listener("d"), top=3, power=True))
        self.assertEqual(self.frame - "d", Frame(Driver("b"), top=3, power=True))
        self.assertEqual(self.frame - "d" - "b", Frame(top=3, power=True))
        self.assertEqual(Frame(Driver("b"), ground=True) - "b", Frame(ground=True))
        self.same()

    def test_take_errors(self):
        for value in no_names() + ["a", "c", Driver("b")]:
            with self.assertRaises(NoLeg) as caught:
                self.frame - value
            self.assertIs(caught.exception.name, value)
        self.same()


if __name__ == "__main__":
    unittest.main()
