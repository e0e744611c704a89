import random
import unittest

from strayjoins.boards import Board
from strayjoins.errors import NoLeg
from strayjoins.frames import Frame
from strayjoins.legs import Driver, Listener
from strayjoins.spread import Bounds, bounds, spread, stake
from strayjoins.tables import Table
from strayjoins.verdicts import Verdict
from strayjoins.words import Word
from tests.bent import any_values
from tests.brute import Facts, make_table, plain_answers, samples
from tests.values import NAMES, no_names


def up(number, by):
    return (number + by - 1) // by


def power_at_least(base, number):
    """The least exponent, by the words of the document."""
    return [exponent for exponent in range(12) if base ** exponent >= number][0]


def numbers(found):
    return (found.least_at_once, found.most_at_once, found.least_by_turns, found.most_by_turns)


def joined(frame, rows, blocks=None):
    table = make_table(frame, rows)
    return Verdict(table, table.answers_of(Board.of(frame, [frame.members] if blocks is None else blocks)))


class AgainstAllBoards(unittest.TestCase):
    def look_at(self, frame, rows, blocks):
        answers = plain_answers(frame, blocks, rows)
        facts = Facts(frame, rows, answers)
        verdict = Verdict(make_table(frame, rows), answers)
        for name in frame.members:
            self.look_at_spread(facts, name, spread(verdict, name))
            self.look_at_stake(facts, name, stake(verdict, name))
        spreads = [facts.spread(block) for block in facts.classes] or [1]
        stakes = [facts.stake(block) for block in facts.classes] or [1]
        top = frame.top
        expected = (up(max(spreads) - 1, top), up(max(stakes) - 1, top),
                    power_at_least(top + 1, max(spreads)), power_at_least(top + 1, max(stakes)))
        found = bounds(verdict)
        self.assertIs(type(found), Bounds)
        self.assertEqual(numbers(found), expected)
        self.assertTrue(all(type(number) is int for number in numbers(found)))
        if facts.settled():
            self.assertEqual(expected, (0, 0, 0, 0))
        return [facts.spread(block) - facts.stake(block) for block in facts.classes]

    def look_at_spread(self, facts, name, parts):
        block = facts.class_of(name)
        self.assertTrue(type(parts) is tuple and all(type(part) is tuple for part in parts))
        self.assertEqual(parts, tuple(sorted(tuple(sorted(part)) for part in parts)))
        self.assertEqual(sorted(one for part in parts for one in part), list(block))
        self.assertEqual(len(parts), facts.spread(block))
        if block == facts.idle:
            self.assertEqual(parts, facts.idle_parts())
        else:
            others = tuple(other for other in facts.classes if other != block)
            fixed = [one for one in others if one != facts.idle]
            idle = [found for found in facts.fitting[0] if found[0] in facts.idle]
            self.assertIn(tuple(sorted([*parts, *fixed, *idle])), facts.fitting)

    def look_at_stake(self, facts, name, found):
        self.assertIs(type(found), tuple)
        stakes = facts.stakes(facts.class_of(name))
        least = min(len(bundles) for bundles in stakes.values())
        first = [index for index, bundles in stakes.items() if len(bundles) == least][0]
        self.assertEqual(found, (first, stakes[first]))

    def test_some_frames(self):
        differences = [number for case in samples(91, 300) for number in self.look_at(*case)]
        self.assertLessEqual(max(differences), 0)

    def test_one_class(self):
        random_one = random.Random(92)
        differences = []
        for number in range(120):
            names = "abchxyz"[:5 + number % 2 + number // 110]
            top = random_one.randint(1, 3)
            frame = Frame(*[Driver(name) for name in names], Listener("m"), top=top)
            rows = []
            for _ in range(random_one.randint(1, 5)):
                low = random_one.sample(names, random_one.randint(2, 4))
                rows.append({name: random_one.choice([0, 0, top - 1]) if name in low else top for name in names})
            differences += self.look_at(frame, rows, (frame.members,))
        self.assertLess(min(differences), 0)

    def test_no_elements(self):
        self.assertEqual(numbers(bounds(Verdict(Table(Frame()), [{}]))), (0, 0, 0, 0))


class Spreads(unittest.TestCase):
    def test_the_examples(self):
        frame = Frame(*[Driver(name) for name in "abcd"])
        verdict = joined(frame, [{"a": 0, "c": 0}, {"b": 0, "c": 0}], [list("abc")])
        for name in "abc":
            self.assertEqual(spread(verdict, name), (("a", "b"), ("c",)))
            self.assertEqual(stake(verdict, name), (1, (("a", "b"), ("c",))))
        self.assertEqual(spread(verdict, "d"), (("d",),))
        self.assertEqual(stake(verdict, "d"), (None, (("d",),)))
        self.assertEqual(numbers(bounds(verdict)), (1, 1, 1, 1))

    def test_a_fifth_driver(self):
        frame = Frame(*[Driver(name) for name in "abcde"])
        verdict = joined(frame, [{"a": 0, "c": 0, "e": 0}, {"b": 0, "c": 0, "e": 0}], [list("abce")])
        self.assertEqual(spread(verdict, "e"), (("a", "b"), ("c",), ("e",)))
        self.assertEqual(stake(verdict, "e"), (1, (("a",), ("c",), ("e",))))

    def test_the_idle_class(self):
        legs = [Driver("a"), Driver("m"), Listener("b"), Listener("z")]
        for power in (False, True):
            frame = Frame(*legs, power=power)
            table = Table(frame)
            verdict = Verdict(table, table.answers_of(Board(frame)))
            others = ("b", "power", "z") if power else ("b", "z")
            for name in frame.members:
                self.assertEqual(spread(verdict, name), (("a",), others, ("m",)))
                self.assertEqual(stake(verdict, name), (None, (("a",), others, ("m",))))

    def test_mute_drivers_alone(self):
        frame = Frame(Driver("b"), Driver("a"), top=3, ground=True)
        verdict = Verdict(Table(frame), [{"a": 3, "b": 3}])
        self.assertEqual(spread(verdict, "a"), (("a",), ("b",)))
        self.assertEqual(spread(verdict, "ground"), (("ground",),))
        self.assertEqual(stake(verdict, "ground"), (0, (("ground",),)))
        self.assertEqual(numbers(bounds(verdict)), (1, 1, 1, 1))

    def test_locked_drivers_are_one_part_with_power_and_listeners(self):
        frame = Frame(*[Driver(name) for name in "abcd"], Listener("z"), power=True)
        table = Table(frame, Word(frame, b=0, c=0))
        verdict = Verdict(table, [dict.fromkeys(frame.names, 1)] * 2)
        self.assertEqual(spread(verdict, "b"), (("a",), ("b", "c", "power", "z"), ("d",)))
        self.assertEqual(numbers(bounds(verdict)), (2, 2, 2, 2))

    def test_no_mute_drivers(self):
        frame = Frame(Listener("a"), Listener("b"))
        verdict = Verdict(Table(frame), [{"a": 1, "b": 1}])
        self.assertEqual(spread(verdict, "b"), (("a", "b"),))
        self.assertEqual(stake(verdict, "b"), (None, (("a", "b"),)))
        self.assertEqual(numbers(bounds(verdict)), (0, 0, 0, 0))

    def test_the_first_word_with_the_fewest_bundles(self):
        names = NAMES[:6]
        frame = Frame(*[Driver(name) for name in names])
        rows = [dict.fromkeys(names[:many], 0) for many in (6, 4, 3, 5, 3)]
        verdict = joined(frame, rows)
        self.assertEqual(stake(verdict, names[5]), (3, tuple((name,) for name in names[:3])))

    def test_great_classes(self):
        frame = Frame(*[Driver(name) for name in NAMES[:40]])
        verdict = joined(frame, [dict.fromkeys(NAMES[:40], 0)])
        self.assertEqual(spread(verdict, NAMES[3]), tuple((name,) for name in NAMES[:40]))
        self.assertEqual(numbers(bounds(verdict)), (39, 39, 6, 6))
        verdict = joined(frame, [dict.fromkeys(NAMES[:20], 0), dict.fromkeys(NAMES[20:40], 0)])
        self.assertEqual(sorted(len(part) for part in spread(verdict, NAMES[0])), [2] * 20)
        self.assertEqual(numbers(bounds(verdict)), (19, 19, 5, 5))
        verdict = joined(frame, [{name: 0} for name in NAMES[:40]])
        self.assertEqual(spread(verdict, NAMES[0]), (tuple(NAMES[:40]),))
        self.assertEqual(numbers(bounds(verdict)), (0, 0, 0, 0))

    def test_tops(self):
        for top, expected in ((1, (12, 12, 4, 4)), (2, (6, 6, 3, 3)), (3, (4, 4, 2, 2))):
            frame = Frame(*[Driver(name) for name in NAMES[:13]], ground=True, top=top)
            verdict = joined(frame, [], [])
            self.assertEqual(numbers(bounds(verdict)), expected)

    def test_the_greatest_of_several_classes(self):
        frame = Frame(*[Driver(name) for name in NAMES[:20]], Listener("z"))
        rows = [dict.fromkeys(NAMES[:7], 0), dict.fromkeys(NAMES[7:17], 0)]
        verdict = joined(frame, rows, [NAMES[:7], NAMES[7:17]])
        self.assertEqual(numbers(bounds(verdict)), (9, 9, 4, 4))

    def test_a_stake_above_the_spread(self):
        # A single driver misses one of the words, and two of them have makers of all.
        frame = Frame(*[Driver(name) for name in "abcd"])
        verdict = joined(frame, [dict.fromkeys(low, 0) for low in ("abc", "abd", "acd", "bcd")])
        self.assertEqual([len(part) for part in spread(verdict, "a")], [2, 2])
        self.assertEqual(stake(verdict, "a"), (1, (("a",), ("b",), ("c",))))
        self.assertEqual(numbers(bounds(verdict)), (1, 2, 1, 2))

    def test_by_names(self):
        frame = Frame(Driver("a"), Driver("b"))
        verdict = Verdict(Table(frame), [{"a": 1, "b": 1}])
        self.assertEqual(spread(name="b", verdict=verdict), (("a",), ("b",)))
        self.assertEqual(stake(name="b", verdict=verdict), (None, (("a",), ("b",))))
        self.assertEqual(bounds(verdict=verdict), bounds(verdict))

    def test_equal_arguments_give_the_same(self):
        for frame, rows, blocks in samples(93, 40):
            answers = plain_answers(frame, blocks, rows)
            one, other = [Verdict(make_table(frame, rows), answers) for _ in range(2)]
            for name in frame.members:
                self.assertEqual(spread(one, name), spread(other, name))

    def test_no_leg(self):
        frame = Frame(Driver("a"), Driver("b"), ground=True)
        verdict = Verdict(Table(frame), [{"a": 1, "b": 1}])
        for value in no_names() + ["c", "ab"]:
            if value != "ground":
                for ask in (spread, stake):
                    with self.assertRaises(NoLeg) as caught:
                        ask(verdict, value)
                    self.assertEqual(caught.exception.name, value)


class BoundsAreCompared(unittest.TestCase):
    def of(self, many, top=1):
        frame = Frame(*[Driver(name) for name in NAMES[:many]], top=top)
        return bounds(Verdict(Table(frame), [dict.fromkeys(frame.names, top)]))

    def test_equal(self):
        self.assertTrue(self.of(3) == self.of(3))
        self.assertFalse(self.of(3) != self.of(3))
        self.assertTrue(self.of(5, 2) == self.of(5, 2))
        self.assertTrue(self.of(0) == self.of(1, 3))

    def test_different(self):
        self.assertFalse(self.of(3) == self.of(4))
        self.assertTrue(self.of(3) != self.of(4))
        self.assertFalse(self.of(3) == self.of(3, 2))

    def test_each_number_counts(self):
        found = self.of(5)
        for name in ("least_at_once", "most_at_once", "least_by_turns", "most_by_turns"):
            other = self.of(5)
            setattr(other, name, getattr(other, name) + 1)
            self.assertFalse(found == other, name)
            self.assertFalse(other == found, name)

    def test_any_other_value(self):
        found = self.of(2)
        for value in any_values() + no_names() + [(1, 1, 1, 1), [1, 1, 1, 1]]:
            self.assertIs(found == value, False)
            self.assertIs(found != value, True)


if __name__ == "__main__":
    unittest.main()
