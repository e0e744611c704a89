import copy
import itertools
import random
import unittest

from strayjoins.asking import at_once, next_word
from strayjoins.boards import Board
from strayjoins.counting import count
from strayjoins.desk import Desk
from strayjoins.errors import InvalidBoard, InvalidCommand, InvalidFrame, JoinError, NoBoard, NothingToUndo, TooMany
from strayjoins.frames import Frame
from strayjoins.legs import Driver, Listener
from strayjoins.spread import bounds
from strayjoins.tables import Table
from strayjoins.tester import Tester
from strayjoins.texts import chart, frame_text, session_text
from strayjoins.verdicts import Verdict
from strayjoins.words import Word
from tests.brute import make_table, plain_answers, samples
from tests.grammar import is_number
from tests.values import NAMES, no_strings

FRAME_LINES = ["driver z", "listener z", "wires a b", "word a=0", "reads 1 1 1", "undo", "show"]
ANSWER_LINES = ["says a b", "bundles", "bounds", "next", "ask", "count", "board", "findings", "chart"]
LEGS = ["frame 1 ground power", "driver a", "driver b", "listener c"]


def desk_with(*lines):
    desk = Desk()
    for line in lines:
        assert desk(line) == "ok", line
    return desk


def answered_desk(*lines):
    return desk_with(*LEGS, "reads 1 1 1", *lines)


def lines_of(frame, rows=None, answers=None):
    """The lines that tell a frame, words and answers."""
    lines = frame_text(frame).split("\n")
    for at, answer in enumerate(answers or []):
        if at:
            lines.append("word " + str(Word.of(frame, rows[at - 1])))
        lines.append(" ".join(["reads"] + [str(answer[name]) for name in frame.names]))
    return lines


class Watched(unittest.TestCase):
    def state(self, desk):
        """All that can be seen of a desk; which word waits is seen by what comes of an answer."""
        tester = desk.tester()
        if tester is None:
            return None
        frame, other = tester.wires.frame, copy.deepcopy(desk)
        try:
            other(" ".join(["reads"] + [str(frame.top)] * len(frame)))
        except (JoinError, TooMany) as error:
            return (desk("show"), tester.wires, len(tester), repr(error))
        return (desk("show"), tester.wires, len(tester), other("show"))

    def wrong(self, desk, line, word):
        """A line raises InvalidCommand, and nothing is changed."""
        before = self.state(desk)
        for call in (desk, desk.say):
            with self.assertRaises(InvalidCommand) as caught:
                call(line)
            self.assertEqual(caught.exception.word, word, line)
        self.assertEqual(self.state(desk), before)

    def fails(self, desk, line, error):
        """The error that a line raises, which changes nothing."""
        before = self.state(desk)
        with self.assertRaises(error) as caught:
            desk(line)
        self.assertEqual(self.state(desk), before)
        return caught.exception


class Examples(Watched):
    def test_the_example(self):
        desk = Desk()
        found = [desk(line) for line in ("frame 1", "driver a", "driver b", "wires a b", "reads 1 1", "bounds", "next", "says a b")]
        self.assertIn(found, [["ok"] * 5 + ["1 1 1 1", word, "open"] for word in ("a=0", "b=0")])
        found = [desk("word a=0"), desk("reads 0 1"), desk("findings"), desk("next"), desk("undo"), desk("findings")]
        self.assertEqual(found, ["ok", "ok", "broken a b", "settled", "ok", "unsure a b"])
        self.wrong(desk, "says a", 2)
        self.wrong(desk, "driver A", 1)

    def test_say_and_call(self):
        desk = Desk()
        self.assertEqual([desk.say("frame 1"), desk(line="driver a"), desk.say(line="show")], ["ok", "ok", "frame 1 / driver a"])

    def test_like_answers(self):
        desk = desk_with("frame 1", *[f"driver {name}" for name in "abcd"], "reads 1 1 1 1", "word a=0 c=0", "reads 0 0 0 1", "word b=0 c=0", "reads 0 0 0 1")
        self.assertEqual(desk("chart"), "a b | c                                    2  2 / d                                          1  1")
        self.assertEqual(desk("bundles"), "(a b) (c) (d)")
        self.assertEqual([desk("says a b"), desk("says a c"), desk("says c d"), desk("count"), desk("board")], ["together", "open", "apart", "2", "(a b c)"])
        self.assertEqual([desk("bounds"), desk("next"), desk("ask")], ["1 1 1 1", "c=0", "c=0"])
        self.assertEqual(desk("findings"), "joined a b, unsure a c, unsure b c")


class Commands(Watched):
    def test_no_commands(self):
        for desk in (Desk(), desk_with(*LEGS), answered_desk()):
            for value in no_strings() + ["", " ", "Frame 1", "frames", " frame 1", "\nframe 1", "frame\n1", "says\n", "quit", "undo\n", "next\n", "go a b", "reads\n1 1 1"]:
                self.wrong(desk, value, 0)

    def test_without_a_frame(self):
        desk = Desk()
        for line in FRAME_LINES + ANSWER_LINES + ["undo x", "says", "word", "reads", "driver", "driver A", "wires", "show x"]:
            self.wrong(desk, line, 0)
        self.assertIs(desk.tester(), None)

    def test_without_an_answer(self):
        desk = desk_with(*LEGS)
        for line in ANSWER_LINES + ["word a=0", "word", "word rest", "says", "says zz", "next x", "count 1", "chart "]:
            self.wrong(desk, line, 0)
        self.fails(desk, "undo", NothingToUndo)
        desk = answered_desk("undo")
        for line in ANSWER_LINES + ["word a=0"]:
            self.wrong(desk, line, 0)

    def test_a_word_too_many(self):
        desk = answered_desk("word a=0")
        for line in ("bundles", "bounds", "next", "ask", "count", "board", "findings", "chart", "undo", "show"):
            for more in ("", "x", "a b", " ", "\n"):
                self.wrong(desk, f"{line} {more}", 1)
        for line, word in (("frame 1 ground power x", 4), ("frame 2 power ", 3), ("driver z z", 2), ("listener z ", 2), ("reads 1 1 1 1", 4), ("reads 1 1 1 ", 4), ("says a b c", 3), ("says a b ", 3)):
            self.wrong(desk, line, word)

    def test_a_line_that_ends_too_early(self):
        desk = answered_desk("word a=0")
        for line, word in (("frame", 1), ("driver", 1), ("listener", 1), ("wires", 1), ("wires a", 2), ("word", 1), ("reads", 1), ("reads 1 1", 3), ("says", 1), ("says a", 2)):
            self.wrong(desk, line, word)

    def test_words_that_do_not_fit(self):
        desk = answered_desk("word a=0")
        for line, word in (
            ("frame 0", 1), ("frame 4", 1), ("frame 01", 1), ("frame x", 1), ("frame ", 1), ("frame 1 x", 2), ("frame 1 power ground", 3), ("frame 1 ground ground", 3), ("frame 1\n", 1),
            ("frame 1 ground power\n", 3), ("driver A", 1), ("driver ground", 1), ("driver power", 1), ("listener nothing", 1), ("driver ", 1), ("driver a1", 1), ("driver z\n", 1),
            ("listener abcdefghi", 1), ("driver  z", 1), ("wires zz a", 1), ("wires a zz", 2), ("wires a a", 2), ("wires a b a", 3), ("wires a b ", 3), ("wires a\nb", 1), ("wires  a b", 1),
            ("wires ground ground", 2), ("wires a nothing", 2), ("word c=0", 1), ("word ground=0", 1), ("word a=2", 1), ("word a=0 a=1", 2), ("word rest a=0", 1), ("word a=0 rest", 2),
            ("word  a=0", 1), ("word a=0 ", 2), ("word rest ", 1), ("word a=0\n", 1), ("word a=00", 1), ("word a", 1), ("reads 2 1 1", 1), ("reads 1 x 1", 2), ("reads 1 1 01", 3),
            ("reads 1  1", 2), ("reads 1 1 1\n", 3), ("reads x", 1), ("reads 1 1 x x", 3), ("says zz a", 1), ("says a zz", 2), ("says  a b", 1), ("says a b\n", 2), ("says zz", 1),
            ("says a\nb", 1), ("says nothing a", 1), ("says a=0 b", 1),
        ):
            self.wrong(desk, line, word)


class Frames(Watched):
    def test_frame_begins_anew(self):
        for line, frame in (("frame 1", Frame()), ("frame 2 ground", Frame(top=2, ground=True)), ("frame 3 power", Frame(top=3, power=True)),
                            ("frame 1 ground power", Frame(ground=True, power=True))):
            desk = answered_desk("wires a b", "word a=0")
            self.assertEqual(desk(line), "ok")
            tester = desk.tester()
            self.assertEqual((tester.wires, len(tester), desk("show")), (Board(frame), 0, frame_text(frame)))
            self.wrong(desk, "word rest", 0)
            self.assertEqual(desk("reads"), "ok")
            self.wrong(desk, "reads", 0)

    def test_legs_forget(self):
        for line, leg in (("driver z", Driver("z")), ("listener z", Listener("z")), ("driver driver", Driver("driver"))):
            desk = answered_desk("wires a b", "word a=0")
            self.assertEqual(desk(line), "ok")
            frame = Frame(Driver("a"), Driver("b"), Listener("c"), leg, ground=True, power=True)
            tester = desk.tester()
            self.assertEqual((tester.wires, len(tester), tester.wanted()), (Board(frame), 0, Word(frame)))
            self.assertEqual(desk("show"), frame_text(frame).replace("\n", " / "))
            self.wrong(desk, "says a b", 0)
            self.assertEqual(desk("reads 1 1 1 1"), "ok")

    def test_names_that_a_leg_has(self):
        desk = answered_desk("wires a b", "word a=0")
        for line in ("driver a", "listener a", "driver c"):
            self.assertEqual(self.fails(desk, line, InvalidFrame).reason, "name")
        desk = desk_with("frame 1", *[f"driver {name}" for name in NAMES])
        for line in ("driver zz", "listener aa", "driver aa"):
            self.assertEqual(self.fails(desk, line, InvalidFrame).reason, "many")
        self.wrong(desk, "driver A", 1)

    def test_a_driver_called_rest(self):
        desk = desk_with("frame 2", "driver rest", "driver a", "reads 2 2", "word rest=0", "reads 2 0", "word rest", "reads 2 2")
        self.assertEqual(desk("show"), "frame 2 / driver a / driver rest / reads 2 2 / word rest=0 / reads 2 0 / word rest / reads 2 2")


class Wires(Watched):
    def test_step_by_step(self):
        desk = desk_with(*LEGS)
        frame = desk.tester().wires.frame
        for line, blocks in (
            ("wires a b", [["a", "b"]]), ("wires power c", [["a", "b"], ["c", "power"]]), ("wires b ground", [["a", "b", "ground"], ["c", "power"]]),
            ("wires ground a", [["a", "b", "ground"], ["c", "power"]]),
        ):
            self.assertEqual(desk(line), "ok")
            self.assertEqual(desk.tester().wires, Board(frame, *blocks))
        for line in ("wires a c", "wires ground power", "wires c b", "wires power ground", "wires a power"):
            self.assertEqual(self.fails(desk, line, InvalidBoard).reason, "rails")
        desk = desk_with(*LEGS)
        self.assertEqual(self.fails(desk, "wires ground a power", InvalidBoard).reason, "rails")
        self.wrong(desk, "wires ground power zz", 3)
        self.assertEqual(desk("wires a b c"), "ok")
        self.assertEqual(self.fails(desk, "wires a ground power", InvalidBoard).reason, "rails")

    def test_answers_and_the_waiting_word_stay(self):
        desk = answered_desk("word a=0", "wires a b")
        self.assertEqual(len(desk.tester()), 1)
        self.assertEqual([desk("reads 0 1 1"), desk("findings")], ["ok", "broken a b, unsure b c, unsure b power, unsure c power"])
        self.assertEqual([desk("undo"), desk("wires b c")], ["ok", "ok"])
        self.assertEqual(desk.tester().wires.blocks, (("a", "b", "c"), ("ground",), ("power",)))


class Answers(Watched):
    def test_without_a_word_that_waits(self):
        desk = answered_desk()
        for line in ("reads 1 1 1", "reads x", "reads", "reads 1 1 1 1"):
            self.wrong(desk, line, 0)
        self.assertEqual([desk("word a=0"), desk("reads 0 1 1")], ["ok", "ok"])
        self.wrong(desk, "reads 0 1 1", 0)

    def test_the_last_word_waits(self):
        desk = answered_desk("word a=0", "word rest", "word b=0", "reads 1 0 1")
        self.assertEqual(desk("show").split(" / ")[-2:], ["word b=0", "reads 1 0 1"])

    def test_the_word_waits_behind_an_error(self):
        desk = answered_desk("word a=0")
        error = self.fails(desk, "reads 1 0 1", NoBoard)
        self.assertEqual((error.index, error.name), (1, "b"))
        self.wrong(desk, "reads 1 0", 3)
        self.assertEqual(desk("reads 0 1 1"), "ok")

    def test_errors_of_the_first_answer(self):
        desk = desk_with("frame 1", "driver a", "driver b")
        error = self.fails(desk, "reads 1 0", NoBoard)
        self.assertEqual((error.index, error.name), (0, "b"))
        self.assertEqual(desk("reads 1 1"), "ok")
        self.assertEqual(desk_with(*LEGS)("reads 0 0 1"), "ok")

    def test_sixty_words(self):
        desk = desk_with("frame 1", "driver a", "reads 1")
        for _ in range(59):
            desk_lines = [desk("word a=0"), desk("reads 0")]
            self.assertEqual(desk_lines, ["ok", "ok"])
        self.assertEqual(desk("word rest"), "ok")
        self.assertEqual(self.fails(desk, "reads 1", TooMany).most, 60)
        self.assertEqual(self.fails(desk, "reads 0", TooMany).most, 60)
        self.wrong(desk, "reads 2", 1)
        self.assertEqual([desk("undo"), desk("word rest"), desk("reads 1"), desk("next")], ["ok", "ok", "ok", "settled"])

    def test_too_many_as_the_verdict(self):
        names = NAMES[:14]
        pairs = [f"word {names[at]}=0 {names[at + 1]}=0" for at in range(0, 14, 2)]
        desk = desk_with("frame 1", *[f"driver {name}" for name in names], "reads" + " 1" * 14)
        for line in pairs[:6]:
            self.assertEqual([desk(line), desk("reads" + " 0" * 14)], ["ok", "ok"])
        desk(pairs[6])
        self.assertEqual(self.fails(desk, "reads" + " 0" * 14, TooMany).most, Verdict.MOST)

    def test_undo(self):
        desk = answered_desk("word a=0", "reads 0 1 1", "word b=0")
        self.assertEqual(desk("undo"), "ok")
        self.assertEqual(desk("show"), "frame 1 ground power / driver a / driver b / listener c / reads 1 1 1")
        self.wrong(desk, "reads 1 1 1", 0)
        self.assertEqual([desk("word b=0"), desk("undo")], ["ok", "ok"])
        self.assertEqual(desk("show"), "frame 1 ground power / driver a / driver b / listener c")
        self.fails(desk, "undo", NothingToUndo)
        self.assertEqual([desk("reads 0 1 1"), desk("says a ground")], ["ok", "together"])

    def test_undo_keeps_the_wires(self):
        desk = answered_desk("wires a b", "undo")
        self.assertEqual(str(desk.tester().wires), "(a b)")


class Questions(Watched):
    def test_against_the_functions(self):
        random_one = random.Random(271)
        for frame, rows, blocks in samples(272, 150):
            answers = plain_answers(frame, blocks, rows)
            table = make_table(frame, rows)
            verdict = Verdict(table, answers)
            desk = desk_with(*lines_of(frame, rows, answers))
            tester = Tester(frame)
            for word, answer in zip(table.words, answers):
                tester.tell(answer, word)
            if len(frame.names) > 1:
                wires = random_one.sample(frame.names, random_one.randint(2, len(frame.names)))
                self.assertEqual(desk("wires " + " ".join(wires)), "ok")
                tester.wires = Board(frame, wires)
            for one, other in itertools.product(frame.members, repeat=2):
                self.assertEqual(desk(f"says {one} {other}"), verdict.says(one, other))
            found = bounds(verdict)
            told = {
                "bundles": " ".join("(" + " ".join(bundle) + ")" for bundle in verdict.bundles) or "-",
                "bounds": f"{found.least_at_once} {found.most_at_once} {found.least_by_turns} {found.most_by_turns}",
                "next": "settled" if verdict.settled else str(next_word(verdict)),
                "ask": "; ".join(str(word) for word in at_once(verdict)) or "settled",
                "count": str(count(verdict)),
                "board": str(verdict.board),
                "findings": ", ".join(" ".join(row) for row in tester.findings()) or "-",
                "chart": chart(verdict).replace("\n", " / "),
                "show": session_text(table, answers).replace("\n", " / "),
            }
            self.assertEqual({line: desk(line) for line in told}, told)

    def test_no_elements(self):
        desk = desk_with("frame 1", "reads")
        told = [desk(line) for line in ("bundles", "bounds", "next", "ask", "count", "board", "findings", "chart", "show")]
        self.assertEqual(told, ["-", "0 0 0 0", "settled", "settled", "1", "-", "-", "", "frame 1 / reads"])

    def test_several_words(self):
        desk = desk_with("frame 1", "driver a", "driver b", "driver c", "reads 1 1 1")
        self.assertEqual(desk("bounds"), "2 2 2 2")
        self.assertEqual(len(desk("ask").split("; ")), 2)
        self.assertEqual(desk("ask"), "; ".join(str(word) for word in at_once(desk.tester().verdict)))

    def test_questions_change_nothing(self):
        desk = answered_desk("word a=0")
        before = self.state(desk)
        for line in ANSWER_LINES + ["show"]:
            desk(line)
            self.assertEqual(self.state(desk), before)
        self.assertEqual(desk("reads 0 1 1"), "ok")


class Testers(Watched):
    def test_a_new_one_each_time(self):
        desk = answered_desk("wires a b", "word a=0", "reads 0 1 1", "word b=0")
        one, other = desk.tester(), desk.tester()
        self.assertIsNot(one, other)
        self.assertIs(type(one), Tester)
        frame = Frame(Driver("a"), Driver("b"), Listener("c"), ground=True, power=True)
        for tester in (one, other):
            self.assertEqual((tester.table, tester.wires, len(tester)), (Table(frame, Word(frame, a=0)), Board(frame, ["a", "b"]), 2))
            self.assertEqual(tester.answers, [{"a": 1, "b": 1, "c": 1}, {"a": 0, "b": 1, "c": 1}])
        one.undo()
        one.wires = None
        self.assertEqual((len(one), len(other), len(desk.tester())), (1, 2, 2))
        self.assertEqual((other.wires, desk.tester().wires), (Board(frame, ["a", "b"]),) * 2)
        self.assertEqual(desk("reads 1 0 1"), "ok")
        self.assertEqual((len(other), len(desk.tester())), (2, 3))

    def test_two_desks(self):
        one, other = answered_desk(), Desk()
        other("frame 2")
        self.assertEqual((one("show"), other("show")), ("frame 1 ground power / driver a / driver b / listener c / reads 1 1 1", "frame 2"))


class ByChance(Watched):
    WORDS = ["", "a", "b", "c", "d", "zz", "0", "1", "2", "rest", "a=0", "b=1", "d=0", "ground", "power", "nothing", "a=", "x\n"]

    def line(self, random_one, desk):
        """A line that is often right."""
        command = random_one.choice(["driver", "listener", "wires", "word", "word", "word", "reads", "reads", "reads", "undo", "show", "says", "bundles", "findings"])
        tester = desk.tester()
        frame = tester.wires.frame if tester else Frame()
        names = list(frame.members) + ["d"]
        many = {"driver": 1, "listener": 1, "wires": 2, "word": random_one.randint(1, 2), "reads": len(frame), "says": 2}.get(command, 0)
        words = [random_one.choice(names) for _ in range(many)]
        if command == "word":
            words = random_one.choice([["rest"], [f"{name}={random_one.randint(0, frame.top)}" for name in words]])
        if command == "reads":
            words = [str(frame.top if random_one.random() < 0.7 else random_one.randint(0, frame.top)) for _ in words]
        if random_one.random() < 0.15:
            at = random_one.randrange(len(words) + 1)
            words[at:at + random_one.randrange(2)] = [random_one.choice(self.WORDS)] * random_one.randrange(2)
        return " ".join([command, *words])

    def test_wrong_lines_change_nothing(self):
        random_one = random.Random(273)
        told = {True: 0, False: 0}
        for _ in range(60):
            desk = desk_with(f"frame {random_one.randint(1, 2)}" + random_one.choice(["", " ground", " ground power"]), "driver a", "driver b", "listener c")
            for _ in range(40):
                before, line = self.state(desk), self.line(random_one, desk)
                try:
                    answer = desk(line)
                except JoinError as error:
                    told[False] += 1
                    self.assertEqual(self.state(desk), before, line)
                    if isinstance(error, InvalidCommand):
                        self.assertLessEqual(error.word, len(line.split(" ")))
                else:
                    told[True] += 1
                    self.assertIs(type(answer), str)
                    self.assertNotIn("\n", answer)
        self.assertGreater(min(told.values()), 150)

    def test_numbers(self):
        for text in ("0", "1", "2", "3", "4", "00", "01", "-1", "1.", "", "10", "100", "x"):
            desk = Desk()
            if is_number(text, 1, 3):
                self.assertEqual(desk(f"frame {text}"), "ok")
            else:
                self.wrong(desk, f"frame {text}", 1)


if __name__ == "__main__":
    unittest.main()
