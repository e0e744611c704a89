import unittest

from strayjoins.boards import Board
from strayjoins.frames import Frame
from strayjoins.legs import Driver, Listener
from strayjoins.tables import Table
from strayjoins.texts import board_text, chart, frame_text, session_text, word_text
from strayjoins.verdicts import Verdict
from strayjoins.words import Word
from tests.brute import Facts, make_table, plain_answers, samples
from tests.values import NAMES


class Frames(unittest.TestCase):
    def test_legs_and_rails(self):
        legs = [Listener("c"), Driver("b"), Driver("abcdefgh"), Listener("a")]
        told = "\nlistener a\ndriver abcdefgh\ndriver b\nlistener c"
        for rails, first in (({}, ""), ({"ground": True}, " ground"), ({"power": True}, " power"),
                             ({"ground": True, "power": True}, " ground power")):
            for top in (1, 2, 3):
                self.assertEqual(frame_text(Frame(*legs, top=top, **rails)), f"frame {top}{first}{told}")
                self.assertEqual(frame_text(frame=Frame(top=top, **rails)), f"frame {top}{first}")

    def test_forty_legs(self):
        lines = frame_text(Frame(*[Driver(name) for name in NAMES])).split("\n")
        self.assertEqual(lines, ["frame 1"] + [f"driver {name}" for name in NAMES])


class Words(unittest.TestCase):
    def test_levels(self):
        frame = Frame(Driver("b"), Driver("a"), Listener("c"), Driver("rest"), top=3)
        for levels, told in (({}, "rest"), ({"b": 0, "a": 2}, "a=2 b=0"), ({"a": 3, "b": 1}, "b=1"), ({"rest": 0}, "rest=0"), ({"rest": 3}, "rest")):
            self.assertEqual(word_text(Word.of(frame, levels)), told)
        self.assertEqual(word_text(word=Word(Frame())), "rest")


class Boards(unittest.TestCase):
    def test_blocks(self):
        frame = Frame(*[Driver(name) for name in "abcd"], Listener("x"), ground=True, power=True)
        for blocks, told in (
            ([], ""), ([["b", "a"]], "block a b"), ([["x", "power"], ["d", "ground", "a"]], "block a d ground\nblock power x"),
            ([["a", "b", "c", "d", "x"]], "block a b c d x"), ([["c"], ["a"]], ""), ([["d", "c"], ["b", "a"]], "block a b\nblock c d"),
        ):
            self.assertEqual(board_text(Board(frame, *blocks)), told)
        self.assertEqual(board_text(board=Board(Frame())), "")


class Sessions(unittest.TestCase):
    def test_the_example(self):
        frame = Frame(*[Driver(name) for name in "abcd"])
        table = Table(frame, Word(frame, a=0, c=0), Word(frame, b=0, c=0))
        answers = table.answers_of(Board(frame, ["a", "b"]))
        lines = ["frame 1", "driver a", "driver b", "driver c", "driver d", "reads 1 1 1 1", "word a=0 c=0", "reads 0 0 0 1", "word b=0 c=0", "reads 0 0 0 1"]
        self.assertEqual(session_text(table, answers), "\n".join(lines))
        self.assertEqual(session_text(answers=tuple(answers), table=table), "\n".join(lines))
        self.assertEqual(chart(Verdict(table, answers)), "a b | c                                    2  2\nd                                          1  1")

    def test_rest_words_and_levels_by_name(self):
        frame = Frame(Listener("b"), Driver("a"), top=2, power=True)
        table = Table(frame, Word(frame), Word(frame, a=1), Word(frame, a=0))
        answers = [{"b": 2, "a": 2}, {"b": 2, "a": 2}, {"b": 2, "a": 1}, {"b": 0, "a": 0}]
        self.assertEqual(session_text(table, answers).split("\n"),
                         ["frame 2 power", "driver a", "listener b", "reads 2 2", "word rest", "reads 2 2", "word a=1", "reads 1 2", "word a=0", "reads 0 0"])

    def test_no_legs(self):
        frame = Frame(ground=True)
        self.assertEqual(session_text(Table(frame), [{}]), "frame 1 ground\nreads")
        self.assertEqual(session_text(Table(frame, Word(frame)), [{}, {}]), "frame 1 ground\nreads\nword rest\nreads")


class Charts(unittest.TestCase):
    def test_columns(self):
        for frame, rows, blocks in samples(241, 120):
            table, answers = make_table(frame, rows), plain_answers(frame, blocks, rows)
            facts = Facts(frame, rows, answers)
            lines = []
            for block in facts.classes:
                named = " | ".join(" ".join(bundle) for bundle in facts.bundles() if bundle[0] in block)
                self.assertLessEqual(len(named), 40)
                spread, stake = str(facts.spread(block)), str(facts.stake(block))
                lines.append(named + " " * (40 - len(named)) + " " + " " * (3 - len(spread)) + spread + " " * (3 - len(stake)) + stake)
            self.assertEqual(chart(Verdict(table, answers)), "\n".join(lines))

    def test_long_bundles_and_numbers_of_two_digits(self):
        frame = Frame(*[Driver(name) for name in NAMES[:12]], ground=True)
        rest = Verdict(Table(frame), [{name: 1 for name in NAMES[:12]}])
        named = " | ".join(NAMES[:12])
        self.assertGreater(len(named), 40)
        self.assertEqual(chart(rest), named + "  12 12\nground" + " " * 34 + "   1  1")
        table = Table(frame, Word.of(frame, {name: 0 for name in NAMES[:10]}))
        verdict = Verdict(table, table.answers_of(Board(frame, NAMES[:11])))
        first = " | ".join(NAMES[:11])
        self.assertEqual(chart(verdict=verdict), "\n".join([f"{first}  10 10", NAMES[11] + " " * 38 + "   1  1", "ground" + " " * 34 + "   1  1"]))

    def test_forty_columns(self):
        frame = Frame(*[Driver(name) for name in ("aaaaaaaa", "bbbbbbbb", "cccccccc", "ddddddd")])
        verdict = Verdict(Table(frame), [{name: 1 for name in frame.names}])
        self.assertEqual(chart(verdict), "aaaaaaaa | bbbbbbbb | cccccccc | ddddddd   4  4")
        frame = Frame(*[Driver(name) for name in ("aaaaaaaa", "bbbbbbbb", "cccccccc", "dddddddd")])
        verdict = Verdict(Table(frame), [{name: 1 for name in frame.names}])
        self.assertEqual(chart(verdict), "aaaaaaaa | bbbbbbbb | cccccccc | dddddddd   4  4")

    def test_no_classes(self):
        self.assertEqual(chart(Verdict(Table(Frame()), [{}])), "")


if __name__ == "__main__":
    unittest.main()
