import itertools
import random
import unittest

from strayjoins.chains import Chain, Hurt
from strayjoins.errors import InvalidChain, InvalidHurt, JoinError, NoLeg
from strayjoins.frames import Frame
from strayjoins.legs import Driver, Listener
from strayjoins.words import Word
from tests.brute import some_frame
from tests.plain_chain import PlainBench, some_levels, some_parts
from tests.values import NAMES, no_integers_between, no_names, no_strings, no_tuples_or_lists

FRAME = Frame(Driver("a"), Driver("b"), Listener("c"), top=2, ground=True, power=True)
RIGHT = [["b", "c"], [], ["a"]]


def reason(test, make):
    with test.assertRaises(InvalidChain) as caught:
        make()
    return caught.exception.reason


class Made(unittest.TestCase):
    def both(self, frame, parts):
        one, other = Chain(frame, *parts), Chain.of(frame, parts)
        self.assertEqual(one, other)
        return one

    def test_parts(self):
        chain = self.both(FRAME, RIGHT)
        self.assertEqual(chain.parts, (("b", "c"), (), ("a",)))
        self.assertIs(type(chain.parts), tuple)
        self.assertEqual([type(part) for part in chain.parts], [tuple] * 3)
        self.assertIs(chain.frame, FRAME)
        self.assertEqual(len(chain), 3)
        self.assertEqual(Chain(FRAME, ("b", "c"), [], ("a",)), chain)
        self.assertEqual(Chain.of(parts=tuple(RIGHT), frame=FRAME), chain)

    def test_cells(self):
        self.assertEqual(self.both(FRAME, RIGHT).cells, ("b", "c", 0, 2, 0, 2, "a", 0, 2))
        self.assertEqual(Chain(Frame(), []).cells, (0, 1))
        self.assertEqual(Chain(Frame(top=3), [], ()).cells, (0, 3, 0, 3))
        self.assertIs(type(Chain(Frame(), []).cells), tuple)

    def test_eight_parts(self):
        self.assertEqual(Chain.MOST, 8)
        for many in range(1, 9):
            chain = self.both(FRAME, [["a", "b", "c"]] + [[]] * (many - 1))
            self.assertEqual((len(chain), len(chain.cells)), (many, 3 + 2 * many))
        for parts in ([], [["a", "b", "c"]] + [[]] * 8, [[]] * 9):
            self.assertEqual(reason(self, lambda: Chain(FRAME, *parts)), "parts")
            self.assertEqual(reason(self, lambda: Chain.of(FRAME, tuple(parts))), "parts")

    def test_forty_legs(self):
        frame = Frame(*[Driver(name) for name in NAMES])
        chain = Chain(frame, *[NAMES[at:at + 5] for at in range(0, 40, 5)])
        self.assertEqual(len(chain.cells), 56)
        self.assertEqual([chain.part_of(name) for name in NAMES], [at // 5 for at in range(40)])

    def test_lists_may_be_changed(self):
        parts = [["b", "c"], ["a"]]
        one, other = Chain.of(FRAME, parts), Chain(FRAME, *parts)
        parts[0].append("d")
        parts[1].clear()
        parts.append([])
        for chain in (one, other):
            self.assertEqual(chain.parts, (("b", "c"), ("a",)))
            self.assertEqual(chain.cells, ("b", "c", 0, 2, "a", 0, 2))

    def test_equality(self):
        chain = Chain(FRAME, *RIGHT)
        same = Frame(Listener("c"), Driver("b"), Driver("a"), top=2, ground=True, power=True)
        self.assertTrue(chain == Chain(same, *RIGHT))
        self.assertFalse(chain != Chain(same, *RIGHT))
        others = [
            Chain(FRAME, ["c", "b"], [], ["a"]), Chain(FRAME, ["b", "c"], ["a"]), Chain(FRAME, ["b", "c"], [], ["a"], []),
            Chain(Frame(Driver("a"), Driver("b"), Listener("c"), top=2, ground=True), *RIGHT),
            Chain(Frame(Driver("a"), Driver("b"), Driver("c"), top=2, ground=True, power=True), *RIGHT),
        ]
        for other in others + no_strings() + ["", "a", chain.parts, Hurt(0, "a")]:
            self.assertIs(chain == other, False)
            self.assertIs(chain != other, True)


class Wrong(unittest.TestCase):
    def look_at(self, parts, told):
        self.assertEqual(reason(self, lambda: Chain(FRAME, *parts)), told, parts)
        self.assertEqual(reason(self, lambda: Chain.of(FRAME, parts)), told)
        self.assertEqual(reason(self, lambda: Chain.of(FRAME, tuple(parts))), told)

    def test_parts(self):
        for value in no_tuples_or_lists():
            self.assertEqual(reason(self, lambda: Chain.of(FRAME, value)), "parts")
            for at in range(4):
                self.look_at(RIGHT[:at] + [value] + RIGHT[at:], "parts")

    def test_names(self):
        for value in no_names() + ["d", "ab", "ground", "power", "nothing"]:
            for parts in ([["a", value], ["b", "c"]], [[value], ["a", "b", "c"]], [["a", "b"], [], [value]], [(value, value)]):
                self.look_at(parts, "name")

    def test_twice(self):
        for parts in ([["a", "b", "c", "a"]], [["a"], ["b", "c", "a"]], [["a", "a"]], [["b"], ["b"]], [["a", "b"], ("c", "c")]):
            self.look_at(parts, "twice")

    def test_legs(self):
        for parts in ([[]], [["a", "b"]], [["c"], ["a"]], [[], [], []], [["b"]]):
            self.look_at(parts, "legs")

    def test_the_first_reason(self):
        wrongs = {"parts": 5, "name": ["d"], "twice": ["a", "a"], "legs": []}
        for many in range(1, 5):
            for told in itertools.combinations(wrongs, many):
                for row in itertools.permutations(told):
                    self.look_at([wrongs[name] for name in row], told[0])
        self.look_at([["d"]] * 9, "parts")
        self.look_at([["d", "d"]], "name")
        self.look_at([["a", "a", "b", "b"]], "twice")

    def test_no_legs(self):
        self.assertEqual(Chain(Frame(), [], []).parts, ((), ()))
        self.assertEqual(reason(self, lambda: Chain(Frame())), "parts")
        self.assertEqual(reason(self, lambda: Chain(Frame(ground=True), ["ground"])), "name")

    def test_the_error(self):
        with self.assertRaises(JoinError):
            Chain(FRAME)


class Asked(unittest.TestCase):
    def test_part_of(self):
        chain = Chain(FRAME, *RIGHT)
        self.assertEqual([chain.part_of(name) for name in "abc"], [2, 0, 0])
        self.assertEqual(chain.part_of(name="a"), 2)
        for value in no_names() + ["d", "ground", "power", "nothing", "ab"]:
            with self.assertRaises(NoLeg) as caught:
                chain.part_of(value)
            self.assertIs(caught.exception.name, value)

    def test_entering(self):
        chain = Chain(FRAME, *RIGHT)
        self.assertEqual(chain.entering(Word.rest(FRAME)), (0, 2) + (2,) * 9)
        self.assertEqual(chain.entering(Word(FRAME, a=0, b=1)), (0, 2, 2, 2, 0, 2, 2, 2, 2, 2, 1))
        self.assertEqual(chain.entering(word=Word(FRAME, b=0)), (0, 2, 2, 2, 2, 2, 2, 2, 2, 2, 0))
        self.assertEqual(Chain(Frame(top=3), []).entering(Word(Frame(top=3))), (0, 3, 3, 3))

    def test_entering_against_beats(self):
        random_one = random.Random(161)
        for _ in range(200):
            frame = some_frame(random_one, 7)
            parts, levels = some_parts(random_one, frame, 8), some_levels(random_one, frame)
            word = Word.of(frame, levels)
            plain = PlainBench(frame, parts, [(name,) for name in frame.members])
            entering = Chain.of(frame, parts).entering(word)
            self.assertEqual(entering, plain.scan(levels)[0])
            self.assertIs(type(entering), tuple)
            self.assertEqual(Chain.of(frame, parts).arrived(entering[:1:-1]), word)

    def test_arrived(self):
        chain = Chain(FRAME, *RIGHT)
        for kind in (list, tuple):
            self.assertEqual(chain.arrived(kind([1, 0, 1, 1, 1, 0, 0, 2, 1])), Word(FRAME, a=0, b=1))
        for others in itertools.product(range(3), repeat=3):
            self.assertEqual(chain.arrived(digits=[2, others[0], 0, others[1], 1, 2, 1, others[2], 0]), Word(FRAME, a=1))
        self.assertEqual(Chain(Frame(), []).arrived((0, 0)), Word(Frame()))

    def test_drivers_with_names_of_parameters(self):
        frame = Frame(*[Driver(name) for name in ("cls", "digits", "frame", "levels", "self")])
        chain = Chain(frame, ["self", "cls"], ["levels", "frame", "digits"])
        word = Word.of(frame, {"self": 0, "frame": 0})
        self.assertEqual(chain.entering(word), (0, 1, 1, 1, 1, 0, 1, 1, 1, 1, 0))
        self.assertEqual(chain.arrived((0, 1, 0, 0, 1, 0, 1, 0, 0)), word)


class HurtLinks(unittest.TestCase):
    def reason(self, link, name):
        with self.assertRaises(InvalidHurt) as caught:
            Hurt(link, name)
        return caught.exception.reason

    def test_links_and_names(self):
        for link in range(9):
            for name in ("a", "abcdefgh", "ground", "power", "nothing"):
                hurt = Hurt(link, name)
                self.assertEqual((hurt.link, hurt.name, str(hurt)), (link, name, f"link {link} {name}"))
        self.assertEqual(str(Hurt(name="a", link=1)), "link 1 a")

    def test_wrong_links(self):
        for value in no_integers_between(0, 8) + [9, -1, 10 ** 40]:
            self.assertEqual(self.reason(value, "a"), "link")
            self.assertEqual(self.reason(value, value), "link")
            self.assertEqual(self.reason(value, ""), "link")

    def test_wrong_names(self):
        for value in no_names():
            if value not in ("ground", "power", "nothing"):
                self.assertEqual(self.reason(0, value), "name")
        for value in ("Nothing", "nothing ", "abcdefghi", "a1"):
            self.assertEqual(self.reason(8, value), "name")

    def test_equality(self):
        self.assertTrue(Hurt(1, "a") == Hurt(1, "a"))
        self.assertFalse(Hurt(1, "a") != Hurt(1, "a"))
        for other in [Hurt(1, "b"), Hurt(0, "a"), Hurt(1, "nothing"), (1, "a"), "link 1 a"] + no_strings():
            self.assertIs(Hurt(1, "a") == other, False)
            self.assertIs(Hurt(1, "a") != other, True)


if __name__ == "__main__":
    unittest.main()
