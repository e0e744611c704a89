import unittest

from strayjoins.boards import Board, every_board
from strayjoins.errors import InvalidBoard, NoLeg, TooMany
from strayjoins.frames import Frame
from strayjoins.legs import Driver, Listener
from strayjoins.words import Word
from tests.brute import plain_answer, plain_boards, samples
from tests.values import no_names, no_strings, no_tuples_or_lists

FRAME = Frame(Driver("a"), Driver("b"), Listener("c"), Driver("z"), top=2, ground=True, power=True)
SMALL = Frame(Driver("a"), Driver("b"), Listener("c"), top=2, power=True)


def reason_of(test, call, *args):
    with test.assertRaises(InvalidBoard) as caught:
        call(*args)
    return caught.exception.reason


def no_members(frame):
    """Values of every kind that are no elements of a frame."""
    return [value for value in no_names() + ["d", "ab"] if not isinstance(value, str) or value not in frame.members]


class Making(unittest.TestCase):
    def test_blocks(self):
        for board in (Board(FRAME, ["z", "a"], ("ground", "c")), Board.of(FRAME, [("a", "z"), ["c", "ground"]]),
                      Board.of(frame=FRAME, blocks=(["c", "ground"], ["z", "a"], ["b"]))):
            self.assertEqual(board.frame, FRAME)
            self.assertEqual(board.blocks, (("a", "z"), ("b",), ("c", "ground"), ("power",)))
            self.assertIs(type(board.blocks), tuple)
            self.assertEqual({type(block) for block in board.blocks}, {tuple})
            self.assertEqual(len(board), 4)

    def test_all_alone(self):
        for board in (Board(FRAME), Board.of(FRAME, []), Board(FRAME, ["a"], ["power"])):
            self.assertEqual(board.blocks, (("a",), ("b",), ("c",), ("ground",), ("power",), ("z",)))
            self.assertEqual(len(board), 6)

    def test_no_elements(self):
        board = Board(Frame())
        self.assertEqual((board.blocks, len(board), str(board), board(Word(Frame()))), ((), 0, "-", {}))

    def test_lists_may_change_later(self):
        inner = ["b", "a"]
        outer = [inner]
        board = Board.of(FRAME, outer)
        self.assertEqual(outer, [["b", "a"]])
        inner.append("c")
        outer.append(["z", "power"])
        self.assertEqual(str(board), "(a b)")


class MakingErrors(unittest.TestCase):
    def test_no_rows_of_names(self):
        for value in no_tuples_or_lists() + [[], ()]:
            self.assertEqual(reason_of(self, Board, FRAME, value), "blocks")
            self.assertEqual(reason_of(self, Board, FRAME, ["a"], value), "blocks")
            self.assertEqual(reason_of(self, Board.of, FRAME, [["a", "b"], value]), "blocks")

    def test_of_takes_lists_and_tuples(self):
        for value in no_tuples_or_lists():
            self.assertEqual(reason_of(self, Board.of, FRAME, value), "blocks")

    def test_name(self):
        for value in no_members(FRAME):
            self.assertEqual(reason_of(self, Board, FRAME, [value]), "name")
            self.assertEqual(reason_of(self, Board.of, FRAME, [("a", value), ["b"]]), "name")
        self.assertEqual(reason_of(self, Board, SMALL, ["a", "ground"]), "name")

    def test_twice(self):
        self.assertEqual(reason_of(self, Board, FRAME, ["a", "a"]), "twice")
        self.assertEqual(reason_of(self, Board, FRAME, ["a", "b"], ["c", "a"]), "twice")
        self.assertEqual(reason_of(self, Board, FRAME, ["power"], ["power"]), "twice")

    def test_rails(self):
        self.assertEqual(reason_of(self, Board, FRAME, ["power", "ground"]), "rails")
        self.assertEqual(reason_of(self, Board.of, FRAME, [("b", "z"), ("ground", "a", "power")]), "rails")

    def test_the_first_reason_is_told(self):
        wrong = {"blocks": [], "name": ["d"], "twice": ["a", "a"], "rails": ["ground", "power"]}
        for code in range(1, 16):
            there = [reason for at, reason in enumerate(wrong) if code >> at & 1]
            blocks = [wrong[reason] for reason in reversed(there)]
            self.assertEqual(reason_of(self, Board, FRAME, *blocks), there[0], there)
            self.assertEqual(reason_of(self, Board.of, FRAME, blocks), there[0], there)

    def test_wrong_within_one_block(self):
        self.assertEqual(reason_of(self, Board, FRAME, ["a", "a", "d"]), "name")
        self.assertEqual(reason_of(self, Board, FRAME, ["ground", "power", "a", "a"]), "twice")
        self.assertEqual(reason_of(self, Board, FRAME, ["ground", "power"], ["power"]), "twice")


class Looking(unittest.TestCase):
    def setUp(self):
        self.board = Board(FRAME, ["a", "z"], ["c", "ground"])

    def test_items(self):
        self.assertEqual(self.board["a"], ("a", "z"))
        self.assertEqual(self.board["z"], ("a", "z"))
        self.assertEqual(self.board["b"], ("b",))
        self.assertEqual(self.board["ground"], ("c", "ground"))
        self.assertEqual(self.board["power"], ("power",))
        for value in no_members(FRAME):
            with self.assertRaises(NoLeg) as caught:
                self.board[value]
            self.assertIs(caught.exception.name, value)

    def test_joins(self):
        self.assertIs(self.board.joins(), True)
        for name in FRAME.members:
            self.assertIs(self.board.joins(name), True)
            self.assertIs(self.board.joins(name, name), True)
        self.assertIs(self.board.joins("a", "z"), True)
        self.assertIs(self.board.joins("a", "z", "a"), True)
        self.assertIs(self.board.joins("a", "b"), False)
        self.assertIs(self.board.joins("a", "z", "b"), False)
        self.assertIs(self.board.joins("b", "a", "z"), False)
        self.assertIs(self.board.joins("ground", "c"), True)
        self.assertIs(Board(FRAME, ["a", "b", "c"]).joins("c", "a", "b"), True)

    def test_joins_errors(self):
        for value in no_members(FRAME):
            for names, first in (((value,), value), (("a", "b", value), value), ((value, "d"), value), (("d", value), "d")):
                with self.assertRaises(NoLeg) as caught:
                    self.board.joins(*names)
                self.assertIs(caught.exception.name, first)

    def test_equal(self):
        self.assertIs(self.board == Board(FRAME, ("ground", "c"), ("z", "a"), ["b"]), True)
        self.assertIs(self.board != Board(FRAME, ("ground", "c"), ("z", "a")), False)
        again = Frame(Driver("z"), Listener("c"), Driver("b"), Driver("a"), top=2, ground=True, power=True)
        self.assertIs(self.board == Board(again, ["a", "z"], ["c", "ground"]), True)
        others = [
            Board(FRAME, ["a", "z"]), Board(FRAME), Board(FRAME, ["a", "b"], ["c", "ground"]),
            Board(Frame(*FRAME.legs, top=3, ground=True, power=True), ["a", "z"], ["c", "ground"]),
        ]
        for other in others:
            self.assertIs(self.board == other, False)
        for value in no_strings() + ["(a z) (c ground)", self.board.blocks]:
            self.assertIs(self.board == value, False)
            self.assertIs(value == self.board, False)

    def test_strings(self):
        told = (
            (Board(FRAME), "-"), (self.board, "(a z) (c ground)"), (Board(FRAME, ["b", "power", "a"]), "(a b power)"),
            (Board(FRAME, ["z", "power"], ["b", "c"], ["a"]), "(b c) (power z)"),
        )
        for board, text in told:
            self.assertEqual(str(board), text)
            self.assertEqual(repr(board), f"Board({text})")


class Reading(unittest.TestCase):
    def test_the_example_of_the_document(self):
        board = Board(SMALL, ["a", "c"], ["b", "power"])
        told = [board(Word(SMALL, a=1, b=0)), str(board), len(board), board.reads(Word(SMALL, b=0), "power")]
        self.assertEqual(told, [{"a": 1, "b": 2, "c": 1}, "(a c) (b power)", 2, 2])

    def test_every_small_case(self):
        for frame, rows, blocks in samples(11, 300):
            board = Board.of(frame, blocks)
            for levels in [{}] + rows:
                word = Word.of(frame, levels)
                answer = plain_answer(frame, blocks, levels)
                self.assertEqual(board(word), answer)
                self.assertEqual(list(board(word)), sorted(answer))
                for name in frame.names:
                    self.assertEqual(board.reads(word, name), answer[name])

    def test_rails(self):
        word = Word(FRAME, a=0, b=1)
        apart = Board(FRAME)
        self.assertEqual([apart.reads(word, "ground"), apart.reads(word, "power")], [0, 2])
        joined = Board(FRAME, ["ground", "b", "c"], ["power", "a"])
        self.assertEqual([joined.reads(word, "ground"), joined.reads(word, "power")], [0, 2])
        self.assertEqual(joined(word), {"a": 2, "b": 0, "c": 0, "z": 2})
        self.assertEqual(joined(Word.rest(FRAME)), {"a": 2, "b": 0, "c": 0, "z": 2})

    def test_the_least_level(self):
        frame = Frame(Driver("a"), Driver("b"), Driver("c"), Listener("d"), top=3)
        board = Board(frame, ["a", "b", "d"])
        self.assertEqual(board(Word(frame, a=2, b=1, c=0)), {"a": 1, "b": 1, "c": 0, "d": 1})
        self.assertEqual(Board(frame, ["d"])(Word(frame, a=0))["d"], 3)

    def test_reads_errors(self):
        for value in no_members(FRAME):
            with self.assertRaises(NoLeg) as caught:
                Board(FRAME).reads(Word(FRAME), value)
            self.assertIs(caught.exception.name, value)
        self.assertEqual(Board(FRAME).reads(word=Word(FRAME, a=1), name="a"), 1)

    def test_answering(self):
        board = Board(FRAME, ["a", "b"])
        words = [Word(FRAME), Word(FRAME, a=0), Word(FRAME, b=1, z=0), Word(FRAME, a=0)]
        self.assertEqual(list(board.answering(*words)), [board(word) for word in words])
        self.assertEqual(list(board.answering()), [])
        one, other = board.answering(*words), board.answering(*words[1:])
        self.assertEqual([next(one), next(other), next(one), next(other)],
                         [board(words[0]), board(words[1]), board(words[1]), board(words[2])])

    def test_what_is_returned_belongs_to_the_caller(self):
        board = Board(FRAME, ["a", "b"])
        board(Word(FRAME)).clear()
        self.assertEqual(board(Word(FRAME)), {"a": 2, "b": 2, "c": 2, "z": 2})


class Joining(unittest.TestCase):
    def test_or(self):
        one, other = Board(FRAME, ["a", "b"], ["c", "z"]), Board(FRAME, ["b", "c"])
        self.assertEqual(one | other, Board(FRAME, ["a", "b", "c", "z"]))
        self.assertEqual(other | one, one | other)
        self.assertEqual(Board(FRAME, ["a", "b"]) | Board(FRAME, ["c", "z"]), one)
        self.assertEqual(one | Board(FRAME), one)
        self.assertEqual(one | one, one)
        self.assertEqual((str(one), str(other)), ("(a b) (c z)", "(b c)"))

    def test_or_of_all_small_boards(self):
        frame = Frame(Driver("a"), Listener("b"), Driver("c"), ground=True, power=True)
        boards = list(every_board(frame))
        for one in boards:
            for other in boards:
                above = [board for board in boards if one.within(board) and other.within(board)]
                if above:
                    self.assertEqual(one | other, max(above, key=len))
                else:
                    self.assertEqual(reason_of(self, lambda: one | other), "rails")

    def test_or_errors(self):
        board = Board(FRAME, ["a", "power"])
        for value in no_strings() + ["-", Board(SMALL), FRAME]:
            self.assertEqual(reason_of(self, lambda: board | value), "frame")
        self.assertEqual(reason_of(self, lambda: board | Board(FRAME, ["a", "ground"])), "rails")
        both = Board(FRAME, ["a", "power"], ["b", "ground"])
        self.assertEqual(reason_of(self, lambda: both | Board(FRAME, ["a", "b"])), "rails")
        self.assertEqual(reason_of(self, lambda: Board(FRAME, ["a", "b"]) | both), "rails")

    def test_within(self):
        for frame in (Frame(Driver("a"), Listener("b"), Driver("c"), power=True), Frame(Driver("a"), ground=True, power=True)):
            boards = list(every_board(frame))
            for one in boards:
                for other in boards:
                    expected = all(any(set(block) <= set(wider) for wider in other.blocks) for block in one.blocks)
                    self.assertIs(one.within(other), expected)
                    self.assertIs(one.within(other=other), expected)

    def test_within_errors(self):
        for value in no_strings() + ["-", Board(SMALL), FRAME]:
            self.assertEqual(reason_of(self, Board(FRAME).within, value), "frame")

    def test_take(self):
        board = Board(FRAME, ["a", "b", "power"], ["c", "z"])
        self.assertEqual(board - "a", Board(FRAME, ["b", "power"], ["c", "z"]))
        self.assertEqual(board - "power", Board(FRAME, ["a", "b"], ["c", "z"]))
        self.assertEqual(board - "z", Board(FRAME, ["a", "b", "power"]))
        self.assertEqual(board - "ground", board)
        self.assertEqual(Board(FRAME) - "a", Board(FRAME))
        self.assertEqual(str(board), "(a b power) (c z)")

    def test_take_errors(self):
        for value in no_members(FRAME):
            with self.assertRaises(NoLeg) as caught:
                Board(FRAME) - value
            self.assertIs(caught.exception.name, value)


class EveryBoard(unittest.TestCase):
    def test_small_frames(self):
        legs = [Driver("a"), Listener("b"), Driver("h"), Driver("q"), Listener("x"), Driver("y"), Driver("z")]
        for many in range(0, 8):
            for ground in (False, True):
                for power in (False, True):
                    if many + ground + power <= 7:
                        frame = Frame(*legs[:many], ground=ground, power=power)
                        found = list(every_board(frame))
                        blocks = [board.blocks for board in found]
                        self.assertEqual(sorted(blocks), sorted(plain_boards(frame)))
                        self.assertEqual(len(set(blocks)), len(blocks))
                        self.assertTrue(all(board.frame == frame for board in found))

    def test_numbers(self):
        self.assertEqual(len(list(every_board(Frame()))), 1)
        self.assertEqual(len(list(every_board(Frame(*[Driver(name) for name in "abcdefg"])))), 877)
        self.assertEqual(len(list(every_board(Frame(*[Driver(name) for name in "abcde"], ground=True, power=True)))), 674)

    def test_too_many(self):
        frames = [
            Frame(*[Driver(name) for name in "abcdefgh"]), Frame(*[Driver(name) for name in "abcdefg"], power=True),
            Frame(*[Driver(name) for name in "abcdef"], ground=True, power=True),
        ]
        for frame in frames:
            with self.assertRaises(TooMany) as caught:
                next(iter(every_board(frame)))
            self.assertEqual(caught.exception.most, 7)

    def test_by_turns(self):
        frame = Frame(Driver("a"), Driver("b"))
        one, other = every_board(frame), every_board(frame=frame)
        first = [next(one), next(other), next(one), next(other)]
        self.assertEqual((first[0], first[2]), (first[1], first[3]))


if __name__ == "__main__":
    unittest.main()
