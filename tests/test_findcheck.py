import itertools
import random
import unittest

from strayjoins.boards import Board
from strayjoins.errors import InvalidBoard, TooMany
from strayjoins.findcheck import shows_finding
from strayjoins.finding import finding_table, finds
from strayjoins.frames import Frame
from strayjoins.legs import Driver, Listener
from strayjoins.tables import Table
from strayjoins.words import Word
from tests.bent import any_values, bends, deep
from tests.brute import Facts, levels_of, make_table, other_boards, plain_answers, plain_boards, samples
from tests.values import NAMES, no_strings


class Case:
    """A table and wires, and what is right of them by all boards of the frame."""

    def __init__(self, frame, rows, blocks):
        self.frame = frame
        self.table, self.wires = make_table(frame, rows), Board.of(frame, blocks)
        self.others = other_boards(frame, rows, blocks)
        self.facts = Facts(frame, rows, plain_answers(frame, blocks, rows), [blocks, *self.others])
        self.shown = [block for block in self.facts.classes if block != self.facts.idle and len(block) > 1]

    def right(self, thing):
        if type(thing) is not tuple or len(thing) != 2:
            return False
        if thing[0] == "missed":
            return type(thing[1]) is Board and thing[1].frame == self.frame and thing[1].blocks in self.others
        if thing[0] != "all" or self.others or type(thing[1]) is not tuple or len(thing[1]) != len(self.shown):
            return False
        return all(self.right_row(block, row) for block, row in zip(self.shown, thing[1]))

    def right_row(self, block, row):
        if type(row) is not tuple or len(row) != len(block) - 1:
            return False
        return all(self.facts.shows_cases([block[0], name], tree) for name, tree in zip(block[1:], row))


def cases(seed, many, most=5, rows=4):
    """Cases, half of them with tables that find all."""
    random_one = random.Random(seed)
    for at, (frame, rows, blocks) in enumerate(samples(seed + 1, many, most, rows)):
        table = finding_table(Board.of(frame, blocks))
        if at % 2 and table is not None:
            rows = [levels_of(word) for word in table.words[1:]] + rows[:random_one.randint(0, 2)]
        yield Case(frame, rows, blocks)


def like_cases():
    """Cases with classes of three makers or more that are one bundle, so that trees have several nodes."""
    frame = Frame(*[Driver(name) for name in "abcdef"])
    for groups in (["abc"], ["abc", "def"], ["abcd"], ["abcd", "ef"], ["abcdef"]):
        blocks = tuple(sorted([tuple(group) for group in groups] + [(name,) for name in "abcdef" if name not in "".join(groups)]))
        rows = []
        for group in groups:
            for left in group[:3]:
                rows.append({name: 0 for name in group[:3] if name != left})
            rows += [{name: 0, group[0]: 0} for name in group[3:]]
        rows += [{name: 0} for name in "abcdef" if name not in "".join(groups)]
        yield Case(frame, rows, blocks)


class Shown(unittest.TestCase):
    def look_at(self, case, thing):
        right = case.right(thing)
        self.assertIs(shows_finding(case.table, case.wires, thing), right, (case.table.words, case.wires, thing))
        return right

    def test_what_is_returned_is_taken(self):
        told = set()
        for case in itertools.chain(cases(191, 400), like_cases()):
            found = finds(case.table, case.wires)
            told.add(found[0])
            self.assertIs(shows_finding(case.table, case.wires, found), True)
            self.assertIs(shows_finding(thing=found, wires=case.wires, table=case.table), True)
            self.assertTrue(self.look_at(case, found))
        self.assertEqual(told, {"all", "missed"})

    def test_all_boards(self):
        told = []
        for case in cases(193, 60):
            for blocks in plain_boards(case.frame):
                told.append(self.look_at(case, ("missed", Board.of(case.frame, blocks))))
            self.assertIs(shows_finding(case.table, case.wires, ("missed", case.wires)), False)
        self.assertTrue(any(told) and not all(told))

    def test_bent_values(self):
        told = []
        for case in itertools.chain(cases(195, 40, 4), like_cases()):
            for bent in itertools.islice(bends(finds(case.table, case.wires), case.frame.members), 3000):
                told.append(self.look_at(case, bent))
        self.assertTrue(any(told) and not all(told))

    def test_trees_of_others(self):
        # Trees of other pairs, of other classes, of other tables; one more and one less.
        told, earlier = [], []
        for case in like_cases():
            found = finds(case.table, case.wires)
            self.assertEqual(found[0], "all")
            earlier.append(found)
            for other in earlier:
                told.append(self.look_at(case, other))
            rows = found[1]
            for thing in (rows + rows[:1], rows[:-1], rows[::-1], rows * 2, rows + ((),), ((),) * len(rows), ()):
                self.look_at(case, ("all", thing))
            for at, row in enumerate(rows):
                for other in (row + row[:1], row[:-1], row[::-1], row[1:] + row[:1], row[:1] * len(row), list(row), row[0]):
                    self.look_at(case, ("all", rows[:at] + (other,) + rows[at + 1:]))
        self.assertTrue(any(told) and not all(told))

    def other_tree(self, random_one, facts, names, placed):
        """A tree made by chance, often a right one."""
        block, makers = facts.class_of(names[0]), facts.makers(names[0])
        if random_one.random() < 0.01:
            return random_one.choice([("word", 0), ("word", True), None, ("leg", names[0], ())])
        sides = [[name for name in block if placed.get(name) == side] for side in range(2)]
        for index, made in makers.items():
            left = [name for name in made if name not in placed]
            if len([side for side in sides if not set(side) & set(made)]) > len(left):
                return ("word", index)
        left = [name for name in block if name not in placed]
        if not left:
            return ("word", 0)
        name = random_one.choice(left)
        return ("leg", name, tuple(self.other_tree(random_one, facts, names, {**placed, name: side}) for side in range(2)))

    def test_other_trees(self):
        random_one = random.Random(197)
        told = []
        for case in itertools.chain(cases(198, 120), list(like_cases()) * 8):
            trees = tuple(
                tuple(self.other_tree(random_one, case.facts, (block[0], name), {block[0]: 0, name: 1}) for name in block[1:])
                for block in case.shown)
            told.append(self.look_at(case, ("all", trees)))
        self.assertTrue(any(told) and not all(told))

    def test_any_values(self):
        for case in itertools.chain(cases(199, 6, 4), like_cases()):
            for value in any_values() + ["all", "missed", deep(tuple, 100), deep(list, 100)]:
                for thing in (value, (value,), (value, ()), ("all", value), ("missed", value), ("all", (value,)), ("all", ((value,),)),
                              ("all", ((("leg", "a", (value, value)),),)), ("all", ((("word", value),),)), ("missed", case.wires, value),
                              ("all", (), value), ["missed", value]):
                    self.look_at(case, thing)

    def test_boards_of_other_frames(self):
        for case in cases(201, 60, 5):
            frame, found = case.frame, finds(case.table, case.wires)
            board = found[1] if found[0] == "missed" else case.wires
            same = Frame(*frame.legs[::-1], top=frame.top, ground=frame.ground, power=frame.power)
            self.assertIs(shows_finding(case.table, Board(same, *case.wires.blocks), ("missed", Board(same, *board.blocks))), found[0] == "missed")
            for other in (Frame(*frame.legs, top=frame.top % 3 + 1, ground=frame.ground, power=frame.power),
                          Frame(*frame.legs, Listener("zz"), top=frame.top, ground=frame.ground, power=frame.power)):
                self.assertIs(shows_finding(case.table, case.wires, ("missed", Board(other, *board.blocks))), False)


class IdleClass(unittest.TestCase):
    def look_at(self, frame, blocks, words, told):
        table, wires = Table(frame, *words), Board(frame, *blocks)
        self.assertIs(shows_finding(table, wires, ("all", ())), told)
        self.assertIs(finds(table, wires) == ("all", ()), told)

    def test_elements_of_the_idle_class(self):
        frame = Frame(Driver("a"), Driver("b"), power=True)
        both = Word(frame, a=0, b=0)
        self.look_at(frame, [["a", "b", "power"]], [both], True)
        self.look_at(frame, [["a", "b", "power"]], [Word(frame, a=0)], False)
        self.look_at(frame, [["a", "power"]], [Word(frame, a=0), Word(frame, b=0)], True)
        self.look_at(frame, [], [Word(frame, a=0), Word(frame, b=0)], True)
        self.look_at(frame, [], [Word(frame, a=0)], False)
        self.look_at(frame, [], [], False)
        frame = Frame(Listener("a"))
        self.look_at(frame, [], [], True)
        frame = Frame(Listener("a"), ground=True, power=True)
        self.look_at(frame, [], [], False)
        self.look_at(frame, [["a", "power"]], [], False)
        self.look_at(Frame(), [], [], True)
        self.look_at(Frame(ground=True, power=True), [], [], True)


class Errors(unittest.TestCase):
    def test_invalid_boards(self):
        frame = Frame(Driver("a"), Driver("b"))
        others = [Board(Frame(Driver("a"))), Board(Frame(Driver("a"), Driver("b"), top=2)), Board(Frame(Driver("a"), Driver("b"), ground=True))]
        for value in any_values() + no_strings() + others:
            for thing in (None, ("all", ()), ("missed", Board(frame)), value):
                with self.assertRaises(InvalidBoard) as caught:
                    shows_finding(Table(frame), value, thing)
                self.assertEqual(caught.exception.reason, "frame")
        self.assertIs(shows_finding(Table(frame, Word(frame, a=0)), Board(Frame(Driver("b"), Driver("a"))), ("all", ())), True)

    def test_never_too_many(self):
        names = NAMES[:24]
        frame = Frame(*[Driver(name) for name in names])
        table = Table.of(frame, [Word.of(frame, {names[at]: 0, names[at + 1]: 0}) for at in range(0, 24, 2)])
        wires = Board(frame, names)
        with self.assertRaises(TooMany):
            finds(table, wires)
        self.assertIs(shows_finding(table, wires, ("missed", Board(frame, names[::2], names[1::2]))), True)
        self.assertIs(shows_finding(table, wires, ("missed", Board(frame, names[:12], names[12:]))), False)
        self.assertIs(shows_finding(table, wires, ("missed", wires)), False)
        self.assertIs(shows_finding(table, wires, ("all", ())), False)
        self.assertIs(shows_finding(table, wires, ("all", ((("word", 1),) * 23,))), False)

    def test_great_tables_that_find_all(self):
        random_one = random.Random(203)
        for top in (1, 2, 3):
            frame = Frame(*[Driver(name) for name in NAMES], top=top, ground=True, power=True)
            names = list(NAMES)
            random_one.shuffle(names)
            wires = Board(frame, *[names[at:at + 5] for at in range(0, 30, 5)], [*names[30:34], "ground"], [*names[34:], "power"])
            table = finding_table(wires)
            found = finds(table, wires)
            self.assertEqual(found[0], "all")
            self.assertIs(shows_finding(table, wires, found), True)
            self.assertIs(shows_finding(table, wires, (found[0], found[1][:-1])), False)
            self.assertIs(shows_finding(table.without(1), wires, found), False)


if __name__ == "__main__":
    unittest.main()
