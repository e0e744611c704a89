import itertools
import unittest

from strayjoins.boards import Board
from strayjoins.errors import NoLeg
from strayjoins.frames import Frame
from strayjoins.legs import Driver, Listener
from strayjoins.spread import spread, stake
from strayjoins.spreadcheck import shows_spread, shows_stake
from strayjoins.tables import Table
from strayjoins.verdicts import Verdict
from strayjoins.words import Word
from tests.bent import any_values, bends, deep
from tests.brute import Facts, make_table, partitions, plain_answers, samples
from tests.values import NAMES, no_names


def are_ascending_tuples(value):
    if type(value) is not tuple or not all(type(part) is tuple for part in value):
        return False
    return all(isinstance(name, str) for part in value for name in part) and all(list(part) == sorted(set(part)) for part in value)


def is_spread(facts, name, thing):
    """What the document says of such a value."""
    if not are_ascending_tuples(thing):
        return False
    block = facts.class_of(name)
    if block == facts.idle:
        return sorted(thing) == list(facts.idle_parts())
    covers = all(set(part) & set(makers) for part in thing for makers in facts.makers(name).values())
    return len(thing) > 0 and covers and sorted(one for part in thing for one in part) == list(block)


def is_stake(facts, name, thing):
    if type(thing) is not tuple or len(thing) != 2 or not are_ascending_tuples(thing[1]):
        return False
    stakes = facts.stakes(facts.class_of(name))
    if thing[0] is not None and type(thing[0]) is not int or thing[0] not in stakes:
        return False
    return sorted(thing[1]) == list(stakes[thing[0]])


def cases(seed, many, most=5, rows=3):
    for frame, levels, blocks in samples(seed, many, most, rows):
        answers = plain_answers(frame, blocks, levels)
        yield Facts(frame, levels, answers), Verdict(make_table(frame, levels), answers)


class Shown(unittest.TestCase):
    def look_at(self, facts, verdict, name, thing):
        right = is_spread(facts, name, thing)
        self.assertIs(shows_spread(verdict, name, thing), right, (name, thing))
        self.assertIs(shows_stake(verdict, name, thing), is_stake(facts, name, thing), (name, thing))
        return right

    def test_what_is_returned_is_taken(self):
        for facts, verdict in cases(101, 150):
            for name in facts.frame.members:
                self.assertIs(shows_spread(verdict, name, spread(verdict, name)), True)
                self.assertIs(shows_stake(verdict, name, stake(verdict, name)), True)
                self.assertIs(shows_spread(verdict=verdict, name=name, thing=spread(verdict, name)), True)
                self.assertIs(shows_stake(verdict=verdict, name=name, thing=stake(verdict, name)), True)

    def test_what_is_told_of_another_element(self):
        for facts, verdict in cases(102, 80):
            for one, other in itertools.product(facts.frame.members, repeat=2):
                for thing in (spread(verdict, other), stake(verdict, other), stake(verdict, other)[1]):
                    self.look_at(facts, verdict, one, thing)

    def test_all_ways_to_part_the_class(self):
        told = []
        for facts, verdict in cases(103, 80):
            for name in facts.frame.members:
                for parts in partitions(facts.class_of(name)):
                    told += [self.look_at(facts, verdict, name, parts), self.look_at(facts, verdict, name, parts[::-1])]
        self.assertTrue(any(told))
        self.assertFalse(all(told))

    def test_every_word_and_every_order_of_a_stake(self):
        for facts, verdict in cases(104, 80):
            for name in facts.frame.members:
                for bundles in facts.stakes(facts.class_of(name)).values():
                    for order in itertools.islice(itertools.permutations(bundles), 6):
                        for index in (None, *range(-1, len(verdict.table) + 1)):
                            self.look_at(facts, verdict, name, (index, order))

    def test_bent_values(self):
        for facts, verdict in cases(105, 50):
            for name in facts.frame.members:
                for thing in (spread(verdict, name), stake(verdict, name)):
                    for bent in bends(thing, facts.frame.members):
                        self.look_at(facts, verdict, name, bent)

    def test_any_values(self):
        for facts, verdict in cases(106, 12, most=4):
            for name in facts.frame.members:
                for value in any_values() + no_names() + [deep(tuple, 100), deep(list, 100)]:
                    for thing in (value, (value,), ((value,),), (value, value), (None, value), (1, value), (value, ())):
                        self.look_at(facts, verdict, name, thing)

    def test_the_example(self):
        frame = Frame(*[Driver(name) for name in "abcde"])
        table = Table(frame, Word(frame, a=0, c=0, e=0), Word(frame, b=0, c=0, e=0))
        verdict = Verdict(table, table.answers_of(Board(frame, list("abce"))))
        for thing in ((("a", "b"), ("c",), ("e",)), (("e",), ("c",), ("a", "b")), (("a", "e"), ("b", "c")), (("a", "b", "c", "e"),)):
            self.assertIs(shows_spread(verdict, "a", thing), True, thing)
            self.assertIs(shows_spread(verdict, "d", thing), False, thing)
        for thing in ((("a",), ("b",), ("c", "e")), (("a", "b"), ("c",)), (("b", "a"), ("c",), ("e",)), (("a", "b"), ("c",), ("e",), ("c",)),
                      (("a", "b"), ("c",), ("e",), ()), (), (["a", "b"], ("c",), ("e",)), [("a", "b"), ("c",), ("e",)], (("a", "b", "b"), ("c",), ("e",))):
            self.assertIs(shows_spread(verdict, "a", thing), False, thing)
        for index, names in ((1, "ace"), (2, "bce"), (2, "ecb")):
            self.assertIs(shows_stake(verdict, "b", (index, tuple((name,) for name in names))), True)
        for index, names in ((0, "ace"), (1, "bce"), (2, "bc"), (2, "bcee"), (True, "ace"), (None, "ace"), (3, "ace"), ("1", "ace")):
            self.assertIs(shows_stake(verdict, "b", (index, tuple((name,) for name in names))), False)
        self.assertIs(shows_stake(verdict, "b", (1, [("a",), ("c",), ("e",)])), False)
        self.assertIs(shows_stake(verdict, "b", (1, (["a"], ("c",), ("e",)))), False)
        self.assertIs(shows_stake(verdict, "b", [1, (("a",), ("c",), ("e",))]), False)

    def test_the_idle_class(self):
        frame = Frame(Driver("a"), Driver("m"), Listener("b"), Listener("z"))
        verdict = Verdict(Table(frame), [dict.fromkeys(frame.names, 1)])
        parts = (("a",), ("b", "z"), ("m",))
        for order in itertools.permutations(parts):
            self.assertIs(shows_spread(verdict, "z", order), True)
            self.assertIs(shows_stake(verdict, "z", (None, order)), True)
        for thing in (parts[:2], parts + parts[:1], (("a",), ("b",), ("m",), ("z",)), (("a", "b", "m", "z"),), (("a",), ("z", "b"), ("m",)), list(parts)):
            self.assertIs(shows_spread(verdict, "z", thing), False)
            self.assertIs(shows_stake(verdict, "z", (None, thing)), False)
        self.assertIs(shows_stake(verdict, "z", (0, parts)), False)

    def test_great_classes(self):
        names = NAMES[:40]
        frame = Frame(*[Driver(name) for name in names])
        table = Table(frame, Word.of(frame, dict.fromkeys(names[:20], 0)), Word.of(frame, dict.fromkeys(names[20:], 0)))
        verdict = Verdict(table, table.answers_of(Board(frame, names)))
        pairs = tuple(zip(names[:20], names[20:]))
        self.assertIs(shows_spread(verdict, names[0], pairs[::-1]), True)
        self.assertIs(shows_spread(verdict, names[0], (tuple(names),)), True)
        self.assertIs(shows_spread(verdict, names[0], pairs[:19]), False)
        self.assertIs(shows_stake(verdict, names[0], (2, tuple((name,) for name in names[39:19:-1]))), True)

    def test_no_leg(self):
        frame = Frame(Driver("a"), Driver("b"), ground=True)
        verdict = Verdict(Table(frame), [{"a": 1, "b": 1}])
        for value in no_names() + ["c", "ab"]:
            if value != "ground":
                for thing in ((("a",), ("b",)), None, (), (None, (("a",), ("b",)))):
                    for look in (shows_spread, shows_stake):
                        with self.assertRaises(NoLeg) as caught:
                            look(verdict, value, thing)
                        self.assertEqual(caught.exception.name, value)


if __name__ == "__main__":
    unittest.main()
