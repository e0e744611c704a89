import itertools
import random
import unittest

from strayjoins.errors import TooMany
from strayjoins.frames import Frame
from strayjoins.legs import Driver, Listener
from strayjoins.tables import Table
from strayjoins.tellcheck import shows_telling
from strayjoins.telling import fewest_table, fewest_words, tells_all
from strayjoins.words import Word
from tests.brute import all_rows, levels_of, make_table, some_frame, some_rows, tells_all_boards
from tests.values import NAMES


def up(number, by):
    return (number + by - 1) // by


def least_levels(table, names):
    return [min(word[name] for name in names) for word in table.words]


def unmoved(table, name):
    """Whether a driver is never driven below top, and something else can be joined with it."""
    frame = table.frame
    return (bool(frame.listeners) or frame.power) and min(table.driven(name)) == frame.top


def are_sets(table, one, other):
    """Whether the document lets these sets show that a table does not tell all."""
    for names in (one, other):
        if type(names) is not tuple or not all(isinstance(name, str) and name in table.frame.drivers for name in names):
            return False
        if list(names) != sorted(set(names)):
            return False
    if not one or set(one) & set(other):
        return False
    if not other:
        return len(one) == 1 and unmoved(table, one[0])
    return least_levels(table, one) == least_levels(table, other)


def is_telling_tree(table, sides, tree):
    """Whether a value is a tree for two sides and the drivers that are on neither, as the document tells it."""
    left = [name for name in table.frame.drivers if not any(name in side for side in sides)]
    if type(tree) is not tuple or not tree:
        return False
    if tree[0] == "end" and len(tree) == 1:
        return not left and not (sides[0] and sides[1])
    if tree[0] == "word" and len(tree) == 2:
        if type(tree[1]) is not int or not 0 <= tree[1] < len(table):
            return False
        word = table.words[tree[1]]
        return any(
            all(word[name] < word[other] for other in sides[1 - side] + left)
            for side in (0, 1) for name in sides[side]
        )
    if tree[0] != "leg" or len(tree) != 5 or not isinstance(tree[1], str) or tree[1] not in left:
        return False
    for at in range(3):
        if at == 1 and not sides[0] and not sides[1]:
            if tree[3] is not None:
                return False
        elif not is_telling_tree(table, [side + [tree[1]] * (place == at) for place, side in enumerate(sides)], tree[2 + at]):
            return False
    return True


def shows(table, thing):
    """What the document says of the tuples of tells_all."""
    if type(thing) is not tuple or not thing:
        return False
    if thing[0] == "all" and len(thing) == 2:
        return not any(unmoved(table, name) for name in table.frame.drivers) and is_telling_tree(table, [[], [], []], thing[1])
    return thing[0] == "twins" and len(thing) == 3 and are_sets(table, thing[1], thing[2])


def legs_of(tree):
    """The parts of a tree that place a driver."""
    return [tree] + [leg for part in tree[2:] if part for leg in legs_of(part)] if tree[0] == "leg" else []


def tables(seed, many, most=5, rows=5):
    random_one = random.Random(seed)
    for at in range(many):
        frame = some_frame(random_one, most)
        levels = some_rows(random_one, frame, rows)
        if at % 4 == 0:
            levels = [levels_of(word) for word in fewest_table(frame).words[1:]] + levels[:1]
            random_one.shuffle(levels)
        yield frame, levels[at % 3 == 0:], make_table(frame, levels[at % 3 == 0:])


class TellsAll(unittest.TestCase):
    def look_at(self, table, right):
        found = tells_all(table)
        self.assertEqual(found[0], "all" if right else "twins", (table.words, found))
        self.assertTrue(shows(table, found), found)
        self.assertIs(shows_telling(table, found), True)
        return found

    def test_against_all_boards(self):
        told = []
        for frame, levels, table in tables(131, 400):
            right = tells_all_boards(frame, levels)
            self.look_at(table, right)
            told.append(right)
        self.assertGreater(sum(told), 60)
        self.assertGreater(len(told) - sum(told), 60)

    def test_all_tables_of_few_words(self):
        for legs in ([Driver("a"), Driver("b")], [Driver("a"), Driver("b"), Driver("c")], [Driver("a"), Driver("b"), Listener("c")]):
            for rails in ({}, {"ground": True}, {"power": True}):
                frame = Frame(*legs, **rails)
                for levels in itertools.combinations_with_replacement(all_rows(frame), 2):
                    self.look_at(make_table(frame, list(levels)), tells_all_boards(frame, list(levels)))

    def test_eight_drivers(self):
        random_one = random.Random(132)
        told = []
        for at in range(60):
            top = random_one.choice([1, 1, 2, 3])
            frame = Frame(*[Driver(name) for name in "abcdefgh"], top=top)
            lone = [{name: 0} for name in "abcdefg"]
            mixed = [{name: random_one.randint(0, top) for name in "abcdefgh" if random_one.random() < 0.7} for _ in range(random_one.randint(1, 50))]
            levels = (lone * (at % 2) + mixed)[:59]
            random_one.shuffle(levels)
            table = make_table(frame, levels)
            subsets = [one for many in range(1, 9) for one in itertools.combinations("abcdefgh", many)]
            alike = {}
            for one in subsets:
                alike.setdefault(tuple(least_levels(table, one)), []).append(set(one))
            right = not any(not one & other for row in alike.values() for one, other in itertools.combinations(row, 2))
            self.look_at(table, right)
            told.append(right)
        self.assertTrue(any(told) and not all(told))

    def test_words_that_drive_no_driver_alone(self):
        # So a driver on one side has to be told from those on the other one.
        for names in ("abc", "abcd", "abcde", "abcdefgh"):
            for size in range(2, len(names)):
                for top in (1, 2, 3):
                    frame = Frame(*[Driver(name) for name in names], top=top)
                    rows = [dict.fromkeys(low, top - 1) for low in itertools.combinations(names, size)]
                    table = make_table(frame, rows[:59])
                    if len(names) <= 5:
                        self.look_at(table, tells_all_boards(frame, rows))
                    else:
                        self.look_at(table, tells_all(table)[0] == "all")

    def test_trees_with_both_sides(self):
        frame = Frame(*[Driver(name) for name in "abc"])
        found = self.look_at(make_table(frame, [dict.fromkeys(low, 0) for low in ("ab", "bc", "ac")]), True)
        self.assertTrue(any(isinstance(tree[3], tuple) for tree in legs_of(found[1])))

    def test_more_than_eight_drivers(self):
        for many in (9, 10, 40):
            for others in ([], [Listener("z")]):
                frame = Frame(*[Driver(name) for name in NAMES[:many - len(others)]], *others, power=not others)
                if many - len(others) > 8:
                    for table in (Table(frame), fewest_table(frame)):
                        with self.assertRaises(TooMany) as caught:
                            tells_all(table)
                        self.assertEqual(caught.exception.most, 8)
        frame = Frame(*[Driver(name) for name in NAMES[:8]], *[Listener(name) for name in NAMES[8:40]])
        self.look_at(fewest_table(frame), True)
        self.look_at(Table(frame), False)

    def test_no_drivers(self):
        for frame in (Frame(), Frame(Listener("a"), Listener("b")), Frame(ground=True, power=True), Frame(Listener("a"), power=True)):
            self.assertEqual(tells_all(Table(frame)), ("all", ("end",)))

    def test_one_driver(self):
        for rails in ({}, {"ground": True}):
            frame = Frame(Driver("a"), **rails)
            for table in (Table(frame), Table(frame, Word(frame, a=0))):
                self.look_at(table, True)
        for frame in (Frame(Driver("a"), Listener("b")), Frame(Driver("a"), power=True)):
            self.assertEqual(tells_all(Table(frame)), ("twins", ("a",), ()))
            self.assertEqual(tells_all(Table(frame, Word(frame))), ("twins", ("a",), ()))
            self.look_at(Table(frame, Word(frame, a=0)), True)

    def test_a_still_driver(self):
        frame = Frame(Driver("a"), Driver("b"))
        self.look_at(Table(frame, Word(frame, a=0)), True)
        frame = Frame(Driver("a"), Driver("b"), ground=True)
        self.look_at(Table(frame, Word(frame, a=0)), True)
        for frame in (Frame(Driver("a"), Driver("b"), power=True), Frame(Driver("a"), Driver("b"), Listener("c"))):
            self.assertEqual(tells_all(Table(frame, Word(frame, a=0))), ("twins", ("b",), ()))

    def test_the_example(self):
        frame = Frame(*[Driver(name) for name in "abcd"])
        table = Table(frame, Word(frame, a=0, c=0), Word(frame, b=0, c=0))
        found = self.look_at(table, False)
        self.assertIs(type(found[1]), tuple)
        self.look_at(table + Word(frame, c=0), True)
        self.look_at(table + Word(frame, a=0), True)
        self.look_at(table + Word(frame, d=0), False)

    def test_equal_arguments_give_the_same(self):
        for _, _, table in tables(133, 60):
            self.assertEqual(tells_all(table), tells_all(table=Table.of(table.frame, table.words[1:])))


class Fewest(unittest.TestCase):
    def frames(self):
        for drivers in (0, 1, 2, 3, 7, 8, 9, 20, 38, 39, 40):
            for top in (1, 2, 3):
                for listeners in (0, 1, 2):
                    for ground, power in itertools.product((False, True), repeat=2):
                        if drivers + listeners <= 40:
                            legs = [Driver(name) for name in NAMES[:drivers]] + [Listener(name) for name in NAMES[drivers:drivers + listeners]]
                            yield Frame(*legs, top=top, ground=ground, power=power)

    def test_numbers_and_tables(self):
        for frame in self.frames():
            drivers = len(frame.drivers)
            others = 1 if frame.listeners or frame.power else 0
            words = up(drivers - 1 + others, frame.top) if drivers else 0
            self.assertEqual(fewest_words(frame), words)
            self.assertEqual(fewest_words(frame=frame), words)
            table = fewest_table(frame)
            self.assertIs(type(table), Table)
            self.assertEqual(table.frame, frame)
            self.assertEqual(len(table), words + 1)
            if drivers <= 8:
                self.assertEqual(tells_all(table)[0], "all")
            self.assertEqual(fewest_table(frame=frame), table)

    def test_drivers_with_names_of_parameters(self):
        frame = Frame(*[Driver(name) for name in ("cls", "frame", "levels", "self")])
        self.assertEqual(tells_all(fewest_table(frame))[0], "all")

    def test_great_tables_tell_all(self):
        # No two drivers have a level below top in common, and at most one is never below top.
        for frame in self.frames():
            table = fewest_table(frame)
            low = [[(index, word[name]) for index, word in enumerate(table.words) if word[name] < frame.top] for name in frame.drivers]
            still = [places for places in low if not places]
            self.assertLessEqual(len(still), 0 if frame.listeners or frame.power else 1)
            places = [place for row in low for place in row]
            self.assertEqual(len(places), len(set(places)))

    def test_no_shorter_table_tells_all(self):
        shorter = 0
        for frame in self.frames():
            if len(frame.drivers) <= 3 and len(frame) <= 4 and frame.top <= 2:
                words = fewest_words(frame)
                rows = [levels_of(word) for word in fewest_table(frame).words[1:]]
                self.assertTrue(tells_all_boards(frame, rows))
                if words and len(all_rows(frame)) ** (words - 1) <= 100:
                    shorter += 1
                    for levels in itertools.combinations_with_replacement(all_rows(frame), words - 1):
                        self.assertFalse(tells_all_boards(frame, list(levels)))
        self.assertGreater(shorter, 30)


if __name__ == "__main__":
    unittest.main()
