import itertools
import random
import unittest

from strayjoins.boards import Board
from strayjoins.errors import InvalidBoard, TooMany
from strayjoins.finding import fewest_finding, finding_table, finds
from strayjoins.frames import Frame
from strayjoins.legs import Driver, Listener
from strayjoins.tables import Table
from strayjoins.verdictcheck import shows_cases
from strayjoins.verdicts import Verdict
from strayjoins.words import Word
from tests.bent import any_values
from tests.brute import Facts, all_rows, levels_of, make_table, other_boards, plain_answers, plain_boards, samples
from tests.values import NAMES


def can_be_found(board):
    """Whether some table finds all, as the document tells it."""
    frame = board.frame
    listeners = set(frame.listeners)
    if frame.power and listeners & set(board["power"]):
        return False
    without = [block for block in board.blocks if not set(block) & set(frame.rails) and not set(block) & set(frame.drivers)]
    return not without or not frame.power and len(without) == 1 and len(without[0]) == 1


def fewest(board):
    """The least number of words, as the document tells it."""
    frame = board.frame
    blocks = [block for block in board.blocks if not set(block) & set(frame.rails)]
    many = 0
    if not frame.power and any(len(block) == 1 for block in blocks):
        while (frame.top + 1) ** many < len(blocks):
            many += 1
    else:
        while (frame.top + 1) ** many <= len(blocks):
            many += 1
    return max(many, 1) if frame.power and len(board["power"]) > 1 else many


class Finds(unittest.TestCase):
    def look_at(self, table, rows, blocks):
        wires = Board.of(table.frame, blocks)
        found = finds(table, wires)
        self.assertIs(type(found), tuple)
        self.assertEqual(len(found), 2)
        others = other_boards(table.frame, rows, blocks)
        if others:
            self.assertEqual(found[0], "missed")
            self.assertIn(found[1].blocks, others)
            self.assertEqual(found[1].frame, table.frame)
        else:
            self.assertEqual(found[0], "all")
            self.look_at_trees(table, wires, found[1], Facts(table.frame, rows, plain_answers(table.frame, blocks, rows), [blocks]))
        return not others

    def look_at_trees(self, table, wires, trees, facts):
        self.assertIs(type(trees), tuple)
        shown = [block for block in facts.classes if block != facts.idle and len(block) > 1]
        self.assertEqual(len(trees), len(shown))
        for block, row in zip(shown, trees):
            self.assertIs(type(row), tuple)
            self.assertEqual(len(row), len(block) - 1)
            for other, tree in zip(block[1:], row):
                self.assertTrue(facts.shows_cases([block[0], other], tree))
                self.assertIs(shows_cases(table, table.answers_of(wires), (block[0], other), tree), True)

    def test_against_all_boards(self):
        random_one = random.Random(151)
        told = []
        for at, (frame, rows, blocks) in enumerate(samples(152, 500)):
            table = finding_table(Board.of(frame, blocks))
            if at % 2 and table is not None:
                rows = [levels_of(word) for word in table.words[1:]] + rows[:1]
                rows = rows[random_one.random() < 0.4:]
            told.append(self.look_at(make_table(frame, rows), rows, blocks))
        self.assertGreater(sum(told), 60)
        self.assertGreater(len(told) - sum(told), 60)

    def test_all_boards_of_a_frame(self):
        for legs in ([Driver("a"), Driver("b"), Driver("c")], [Driver("a"), Driver("b"), Listener("c")]):
            for rails in ({}, {"ground": True}, {"power": True}, {"ground": True, "power": True}):
                frame = Frame(*legs, **rails)
                for rows in ([], [{"a": 0}], [{"a": 0}, {"b": 0}], [{"a": 0, "b": 0}]):
                    for blocks in plain_boards(frame):
                        self.look_at(make_table(frame, rows), rows, blocks)

    def test_another_partner(self):
        # Each class is one block, but not one bundle; or a class has several blocks.
        frame = Frame(*[Driver(name) for name in "abc"])
        table = Table(frame, Word(frame, a=0, b=0))
        self.look_at(table, [{"a": 0, "b": 0}], (("a", "b"), ("c",)))
        self.look_at(table, [{"a": 0, "b": 0}], (("a",), ("b",), ("c",)))

    def test_invalid_boards(self):
        frame = Frame(Driver("a"), Driver("b"))
        others = [Board(Frame(Driver("a"))), Board(Frame(Driver("a"), Driver("b"), top=2)), Board(Frame(Driver("a"), Driver("b"), ground=True))]
        for value in any_values() + others:
            with self.assertRaises(InvalidBoard) as caught:
                finds(Table(frame), value)
            self.assertEqual(caught.exception.reason, "frame")
        self.assertEqual(finds(table=Table(frame, Word(frame, a=0)), wires=Board(Frame(Driver("b"), Driver("a")))), ("all", ()))

    def test_too_many(self):
        names = NAMES[:24]
        frame = Frame(*[Driver(name) for name in names])
        table = Table.of(frame, [Word.of(frame, {names[at]: 0, names[at + 1]: 0}) for at in range(0, 24, 2)])
        with self.assertRaises(TooMany) as caught:
            finds(table, Board(frame, names))
        self.assertEqual(caught.exception.most, Verdict.MOST)
        with self.assertRaises(InvalidBoard):
            finds(table, Board(Frame()))
        self.assertEqual(finds(table, Board(frame, *zip(names[::2], names[1::2])))[0], "missed")

    def test_no_elements(self):
        self.assertEqual(finds(Table(Frame()), Board(Frame())), ("all", ()))
        frame = Frame(ground=True, power=True)
        self.assertEqual(finds(Table(frame), Board(frame)), ("all", ()))

    def test_the_idle_class(self):
        frame = Frame(Driver("a"), power=True)
        wires = Board(frame, ["a", "power"])
        self.assertEqual(finds(Table(frame), wires), ("missed", Board(frame)))
        self.assertEqual(finds(Table(frame, Word(frame, a=0)), wires), ("all", ()))
        self.assertEqual(finds(Table(frame), Board(frame)), ("missed", wires))
        frame = Frame(Listener("a"), power=True)
        for wires, other in ((Board(frame), Board(frame, ["a", "power"])), (Board(frame, ["a", "power"]), Board(frame))):
            self.assertEqual(finds(Table(frame), wires), ("missed", other))

    def test_equal_arguments_give_the_same(self):
        for frame, rows, blocks in samples(153, 60):
            one, other = [(make_table(frame, rows), Board.of(frame, blocks)) for _ in range(2)]
            self.assertEqual(finds(*one), finds(*other))
            self.assertEqual(finding_table(one[1]), finding_table(other[1]))


class Fewest(unittest.TestCase):
    def small_frames(self):
        for drivers, listeners in ((0, 0), (0, 1), (0, 2), (1, 0), (1, 1), (1, 2), (2, 0), (2, 1), (2, 2), (3, 0), (3, 1)):
            for top in (1, 2):
                for ground, power in itertools.product((False, True), repeat=2):
                    legs = [Driver(name) for name in "bdf"[:drivers]] + [Listener(name) for name in "ac"[:listeners]]
                    yield Frame(*legs, top=top, ground=ground, power=power)

    def test_small_frames(self):
        numbers = {}
        for frame in self.small_frames():
            for blocks in plain_boards(frame):
                board = Board.of(frame, blocks)
                words = fewest_finding(board)
                table = finding_table(board)
                numbers[words] = numbers.get(words, 0) + 1
                if not can_be_found(board):
                    self.assertIs(words, None)
                    self.assertIs(table, None)
                    continue
                self.assertEqual(words, fewest(board))
                self.assertIs(type(words), int)
                self.assertIs(type(table), Table)
                self.assertEqual((table.frame, len(table)), (frame, words + 1))
                self.assertEqual(other_boards(frame, [levels_of(word) for word in table.words[1:]], blocks), [])
                self.assertEqual(finds(table, board)[0], "all")
        self.assertEqual(set(numbers), {None, 0, 1, 2})

    def test_no_shorter_table_finds_all(self):
        shorter = 0
        for frame in self.small_frames():
            for blocks in plain_boards(frame):
                words = fewest_finding(Board.of(frame, blocks))
                tables = 12 if words is None else len(all_rows(frame)) ** max(words - 1, 0)
                if words != 0 and tables <= 30 and len(frame.members) <= 4:
                    shorter += 1
                    lengths = range(words) if words else range(2)
                    for rows in [rows for many in lengths for rows in itertools.combinations_with_replacement(all_rows(frame), many)]:
                        self.assertTrue(other_boards(frame, list(rows), blocks), (frame.members, blocks, rows))
        self.assertGreater(shorter, 100)

    def test_none(self):
        drivers = [Driver("a"), Driver("b")]
        for board in (
            Board(Frame(*drivers, Listener("c"), power=True), ["c", "power"]), Board(Frame(*drivers, Listener("c"), power=True)),
            Board(Frame(*drivers, Listener("c"), Listener("d"))), Board(Frame(*drivers, Listener("c"), Listener("d")), ["c", "d"]),
            Board(Frame(*drivers, Listener("c"), power=True), ["a", "c", "power"]),
        ):
            self.assertIs(fewest_finding(board), None)
            self.assertIs(finding_table(wires=board), None)
        for board in (
            Board(Frame(*drivers, Listener("c"))), Board(Frame(*drivers, Listener("c"), power=True), ["a", "c"]),
            Board(Frame(Listener("c"), ground=True, power=True), ["c", "ground"]), Board(Frame(Listener("c"))),
            Board(Frame(*drivers, Listener("c"), Listener("d")), ["a", "d"]),
        ):
            self.assertEqual(fewest_finding(wires=board), fewest(board))
            self.assertEqual(finds(finding_table(board), board)[0], "all")

    def test_drivers_in_the_block_of_power(self):
        frame = Frame(Driver("a"), Driver("b"), power=True)
        for blocks, words in (([["a", "b", "power"]], 1), ([["a", "power"]], 1), ([], 2), ([["a", "b"]], 1)):
            board = Board.of(frame, blocks)
            self.assertEqual(fewest_finding(board), words)
            self.assertEqual(finds(finding_table(board), board)[0], "all")
        self.assertEqual(fewest_finding(Board(Frame(power=True))), 0)

    def test_drivers_with_names_of_parameters(self):
        frame = Frame(*[Driver(name) for name in ("cls", "frame", "levels", "self")])
        for board in (Board(frame), Board(frame, ["cls", "frame", "self"])):
            self.assertEqual(finds(finding_table(board), board)[0], "all")

    def test_great_frames(self):
        random_one = random.Random(154)
        for at in range(120):
            top = at % 3 + 1
            ground, power = at % 2 == 0, at % 5 < 2
            drivers = [Driver(name) for name in NAMES[:40 - at % 7]]
            listeners = [Listener(name) for name in NAMES[40 - at % 7:40]]
            frame = Frame(*drivers, *listeners, top=top, ground=ground, power=power)
            groups = [[name] for name in NAMES[:random_one.randint(1, len(drivers))]]
            rails = [[rail] for rail in frame.rails]
            for name in NAMES[len(groups):40]:
                homes = groups + rails if name in frame.drivers else groups + [rail for rail in rails if rail != ["power"]]
                random_one.choice([home for home in homes if name in frame.drivers or "power" not in home]).append(name)
            board = Board(frame, *groups, *rails)
            self.assertTrue(can_be_found(board))
            self.assertEqual(fewest_finding(board), fewest(board))
            table = finding_table(board)
            self.assertEqual(len(table), fewest(board) + 1)
            self.assertEqual(finds(table, board)[0], "all")
        frame = Frame(*[Driver(name) for name in NAMES[:40]])
        self.assertEqual([fewest_finding(Board(frame)), fewest_finding(Board(frame, NAMES[:40]))], [6, 1])


if __name__ == "__main__":
    unittest.main()
