import itertools
import random
import unittest

from strayjoins.frames import Frame
from strayjoins.legs import Driver, Listener
from strayjoins.tables import Table
from strayjoins.tellcheck import shows_telling
from strayjoins.telling import fewest_table, tells_all
from strayjoins.words import Word
from tests.bent import any_values, bends, deep
from tests.brute import make_table
from tests.test_telling import shows, tables
from tests.values import NAMES, no_names


class Shown(unittest.TestCase):
    def look_at(self, table, thing):
        right = shows(table, thing)
        self.assertIs(shows_telling(table, thing), right, (table.words, thing))
        return right

    def test_what_is_returned_is_taken(self):
        for _, _, table in tables(141, 300):
            found = tells_all(table)
            self.assertIs(shows_telling(table, found), True)
            self.assertIs(shows_telling(thing=found, table=table), True)

    def test_what_is_told_of_other_tables(self):
        told, earlier = [], []
        for _, _, table in tables(142, 150, most=4):
            told += [self.look_at(table, found) for found in earlier[-60:]]
            earlier.append(tells_all(table))
        self.assertTrue(any(told) and not all(told))

    def test_bent_values(self):
        told = []
        for frame, _, table in tables(143, 50, most=4):
            for bent in itertools.islice(bends(tells_all(table), frame.members), 4000):
                told.append(self.look_at(table, bent))
        self.assertTrue(any(told) and not all(told))

    def test_any_values(self):
        frame = Frame(Driver("a"), Driver("b"), Driver("c"))
        for table in (fewest_table(frame), Table(frame), Table(Frame()), Table(Frame(Driver("a"), Listener("b")))):
            found = tells_all(table)
            for value in any_values() + no_names() + [deep(tuple, 100), deep(list, 100)]:
                for thing in (value, (value,), (value, *found[1:]), (found[0], value), ("all", value), ("twins", value, value),
                              ("twins", ("a",), value), ("twins", value, ("b",)), (found, value), ("all", ("leg", "a", value, None, value)),
                              ("all", ("leg", value, ("end",), None, ("end",))), ("all", ("word", value)), ("all", (value, 1))):
                    self.look_at(table, thing)

    def test_all_pairs_of_sets(self):
        for _, _, table in tables(144, 60, most=4):
            names = table.frame.drivers
            sets = [one for many in range(len(names) + 1) for one in itertools.combinations(names, many)]
            for one, other in itertools.product(sets, repeat=2):
                self.look_at(table, ("twins", one, other))
                self.look_at(table, ("twins", one[::-1], other))
                self.look_at(table, ("twins", one, list(other)))
                self.look_at(table, ("twins", one + one, other))

    def other_tree(self, random_one, table, sides, depth):
        """A tree made by chance, often a right one."""
        left = [name for name in table.frame.drivers if not any(name in side for side in sides)]
        if random_one.random() < 0.03:
            return random_one.choice([("end",), ("word", random_one.randrange(len(table))), None, ("word", True)])
        for index, word in enumerate(table.words):
            levels = [[word[name] for name in names] for names in (sides[0], sides[1], left)]
            least = [min(row, default=9) for row in levels]
            if min(least[:2]) < least[2] and least[0] != least[1]:
                return ("word", index)
        if not left:
            return ("end",)
        name = random_one.choice(left)
        trees = [self.other_tree(random_one, table, [side + [name] * (place == at) for place, side in enumerate(sides)], depth + 1) for at in range(3)]
        if not sides[0] and not sides[1]:
            trees[1] = None
        return ("leg", name, *trees)

    def test_other_trees(self):
        random_one = random.Random(145)
        told = []
        for _, _, table in tables(146, 300):
            told.append(self.look_at(table, ("all", self.other_tree(random_one, table, [[], [], []], 0))))
        self.assertGreater(sum(told), 30)
        self.assertGreater(len(told) - sum(told), 30)

    def test_trees_node_by_node(self):
        frame = Frame(Driver("a"), Driver("b"))
        table = Table(frame, Word(frame, a=0))
        end, word = ("end",), ("word", 1)
        inner = ("leg", "b", end, end, end)
        self.assertIs(shows_telling(table, ("all", ("leg", "a", word, None, ("leg", "b", end, None, end)))), True)
        self.assertIs(shows_telling(table, ("all", ("leg", "a", ("leg", "b", end, word, end), None, ("leg", "b", word, None, end)))), True)
        for tree in (
            end, word, inner, ("leg", "a", word, word, ("leg", "b", end, None, end)), ("leg", "a", word, end, ("leg", "b", end, None, end)),
            ("leg", "a", word, None, end), ("leg", "a", word, None, word), ("leg", "a", inner, None, ("leg", "b", end, None, end)),
            ("leg", "a", ("leg", "b", end, None, end), None, ("leg", "b", end, None, end)), ("leg", "a", word, None),
            ("leg", "a", word, None, ("leg", "a", end, None, end)), ("leg", "a", ("word", 0), None, ("leg", "b", end, None, end)),
            ("leg", "a", word, None, ("leg", "b", end, None, None)), ("leg", "c", word, None, ("leg", "b", end, None, end)),
            ("leg", "a", ("word", True), None, ("leg", "b", end, None, end)), ("leg", "a", ["word", 1], None, ("leg", "b", end, None, end)),
            ("leg", "a", ("word", 2), None, ("leg", "b", end, None, end)), ("leg", "a", ("word", -1), None, ("leg", "b", end, None, end)),
            ("leg", "a", word, False, ("leg", "b", end, None, end)), ("leg", "a", word, (), ("leg", "b", end, None, end)),
        ):
            self.assertIs(shows_telling(table, ("all", tree)), False, tree)

    def test_a_driver_that_is_placed_already(self):
        table = Table(Frame(Driver("a")))
        end = ("end",)
        self.assertIs(shows_telling(table, ("all", ("leg", "a", end, None, end))), True)
        again = ("leg", "a", end, None, end)
        self.assertIs(shows_telling(table, ("all", ("leg", "a", end, None, again))), False)
        self.assertIs(shows_telling(table, ("all", ("leg", "a", ("leg", "a", end, end, end), None, end))), False)

    def test_a_still_driver_beside_a_listener_or_power(self):
        for frame in (Frame(Driver("a"), Listener("z")), Frame(Driver("a"), power=True)):
            tree = ("leg", "a", ("end",), None, ("end",))
            still, moved = Table(frame, Word(frame)), Table(frame, Word(frame, a=0))
            self.assertIs(shows_telling(still, ("all", tree)), False)
            self.assertIs(shows_telling(moved, ("all", tree)), True)
            self.assertIs(shows_telling(still, ("twins", ("a",), ())), True)
            self.assertIs(shows_telling(moved, ("twins", ("a",), ())), False)
            self.assertIs(shows_telling(still, ("twins", (), ("a",))), False)
        frame = Frame(Driver("a"), Driver("b"), ground=True)
        self.assertIs(shows_telling(Table(frame), ("twins", ("a",), ())), False)
        self.assertIs(shows_telling(Table(frame), ("twins", ("a",), ("b",))), True)
        frame = Frame(Driver("a"), Driver("b"), power=True)
        self.assertIs(shows_telling(Table(frame), ("twins", ("a", "b"), ())), False)
        self.assertIs(shows_telling(Table(frame), ("twins", ("b",), ())), True)

    def test_no_bound_for_the_drivers(self):
        frame = Frame(*[Driver(name) for name in NAMES[:40]])
        table = fewest_table(frame)
        tree = ("end",)
        moved = [name for name in NAMES[:40] if min(table.driven(name)) == 0]
        left = [name for name in NAMES[:40] if name not in moved]
        for name in left:
            tree = ("leg", name, tree, None, tree)
        for name in moved:
            index = [at for at, word in enumerate(table.words) if word[name] == 0][0]
            tree = ("leg", name, ("word", index), None, tree)
        self.assertIs(shows_telling(table, ("all", tree)), True)
        self.assertIs(shows_telling(table.without(5), ("all", tree)), False)
        self.assertIs(shows_telling(Table(frame), ("twins", tuple(NAMES[:20]), tuple(NAMES[20:40]))), True)
        self.assertIs(shows_telling(table, ("twins", tuple(NAMES[:20]), tuple(NAMES[20:40]))), False)

    def test_trees_of_depth_100(self):
        frame = Frame(*[Driver(name) for name in NAMES[:40]])
        tree = ("end",)
        for at in range(99):
            tree = ("leg", NAMES[at % 40], ("word", 0), None, tree)
        self.assertIs(shows_telling(fewest_table(frame), ("all", tree)), False)

    def test_tables_of_many_words(self):
        random_one = random.Random(147)
        frame = Frame(*[Driver(name) for name in NAMES[:8]], top=3)
        table = make_table(frame, [{name: random_one.randint(0, 3) for name in NAMES[:8]} for _ in range(59)])
        self.assertIs(shows_telling(table, tells_all(table)), True)


if __name__ == "__main__":
    unittest.main()
