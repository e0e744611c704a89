"""The examples of the document, and sessions that go through the whole program."""

import random
import unittest

from strayjoins.asking import at_once, hardest
from strayjoins.bench import Bench
from strayjoins.boards import Board, every_board
from strayjoins.chains import Chain, Hurt
from strayjoins.counting import boards, count
from strayjoins.desk import Desk
from strayjoins.errors import Settled
from strayjoins.findcheck import shows_finding
from strayjoins.finding import fewest_finding, finding_table, finds
from strayjoins.frames import Frame
from strayjoins.hurt import HurtVerdict, agrees, deeds_for, lone_words
from strayjoins.legs import Driver, Listener
from strayjoins.needed import needed, shows_needed
from strayjoins.reader import read_board, read_frame, read_session
from strayjoins.scans import Scans
from strayjoins.spread import bounds, spread, stake
from strayjoins.tables import Table
from strayjoins.tellcheck import shows_telling
from strayjoins.telling import fewest_table, fewest_words, tells_all
from strayjoins.tester import Tester
from strayjoins.texts import board_text, chart, frame_text, session_text
from strayjoins.verdictcheck import shows
from strayjoins.verdicts import Verdict
from strayjoins.words import Word
from tests.brute import plain_boards, some_frame
from tests.plain_chain import all_hurts, some_parts


class Examples(unittest.TestCase):
    def test_like_answers(self):
        frame = Frame(*[Driver(name) for name in "abcd"])
        table = Table(frame, Word(frame, a=0, c=0), Word(frame, b=0, c=0))
        answers = [{"a": 1, "b": 1, "c": 1, "d": 1}] + [{"a": 0, "b": 0, "c": 0, "d": 1}] * 2
        verdict = Verdict(table, answers)
        self.assertEqual([verdict.says(*pair) for pair in ("ab", "ac", "bc", "ad")], ["together", "open", "open", "apart"])
        self.assertEqual(spread(verdict, "a"), (("a", "b"), ("c",)))
        self.assertEqual(stake(verdict, "a")[1], (("a", "b"), ("c",)))
        self.assertEqual(at_once(verdict), (Word(frame, c=0),))
        self.assertEqual((verdict.settled, bounds(verdict).least_at_once, bounds(verdict).most_by_turns), (False, 1, 1))

    def test_like_answers_with_a_fifth_driver(self):
        frame = Frame(*[Driver(name) for name in "abcde"])
        table = Table(frame, Word(frame, a=0, c=0, e=0), Word(frame, b=0, c=0, e=0))
        low = {"a": 0, "b": 0, "c": 0, "d": 1, "e": 0}
        verdict = Verdict(table, [{name: 1 for name in "abcde"}, low, low])
        self.assertEqual(verdict.says("a", "b"), "open")
        parts = spread(verdict, "a")
        self.assertEqual(len(parts), 3)
        self.assertEqual(parts, (("a", "b"), ("c",), ("e",)))

    def test_a_word_that_was_not_held(self):
        frame = Frame(*[Driver(name) for name in "abc"])
        chain = Chain(frame, ["a", "b"], ["c"])
        bench = Bench(chain, Board(frame), Hurt(1, "a"))
        self.assertEqual(bench.scan(Word(frame, a=0)), (1, 0, 1, 1, 0, 1, 1, 0, 1))
        self.assertEqual(str(bench.held), "a=0")
        digits = bench.scan(Word(frame, b=0))
        self.assertEqual((digits[-2:], digits[3:5], digits[:2]), ((0, 0), (0, 0), (1, 0)))
        self.assertEqual(str(bench.held), "b=0 c=0")
        self.assertEqual(bench.scan(Word.rest(frame)), (1, 0, 0, 1, 0, 0, 1, 0, 1))
        hurt = HurtVerdict(chain, bench.deeds)
        self.assertEqual((hurt.table, hurt.answers), (Table(frame, Word(frame, b=0, c=0)), [{"a": 1, "b": 1, "c": 1}, {"a": 1, "b": 0, "c": 0}]))
        self.assertEqual([hurt.with_link(name) for name in "abc"], ["surely", "not", "not"])


class Sessions(unittest.TestCase):
    def test_from_a_board_to_its_findings(self):
        random_one = random.Random(281)
        for _ in range(60):
            frame = some_frame(random_one, 6)
            board, wires = [Board.of(frame, random_one.choice(plain_boards(frame))) for _ in range(2)]
            tester = Tester(frame, wires=wires)
            while True:
                try:
                    word = tester.wanted()
                except Settled:
                    break
                tester.tell(board(word), word)
            verdict = tester.verdict
            for kind, one, other in tester.findings():
                if kind != "unsure":
                    self.assertEqual((wires.joins(one, other), board.joins(one, other)), (kind == "broken", kind == "joined"))
                self.assertTrue(shows(tester.table, tester.answers, one, other, verdict.paper(one, other)))
            found = list(boards(verdict))
            self.assertIn(board, found)
            self.assertEqual(len(found), count(verdict))
            left = needed(tester.table, tester.answers)
            self.assertTrue(shows_needed(tester.table, tester.answers, left))
            if not [row for row in tester.findings() if row[0] == "unsure"]:
                self.assertEqual(found, [board])

    def test_tables_that_tell_and_find(self):
        for frame in (Frame(Driver("a"), Driver("b"), Listener("c"), top=2, power=True), Frame(*[Driver(name) for name in "abcd"], ground=True)):
            table = fewest_table(frame)
            self.assertEqual(len(table), fewest_words(frame) + 1)
            self.assertTrue(shows_telling(table, tells_all(table)))
            for board in every_board(frame):
                verdict = Verdict(table, table.answers_of(board))
                self.assertTrue(verdict.settled)
                self.assertTrue(verdict.fits(hardest(verdict)))
                finding = finding_table(board)
                if finding is not None:
                    self.assertEqual(len(finding), fewest_finding(board) + 1)
                    self.assertTrue(shows_finding(finding, board, finds(finding, board)))
                self.assertTrue(shows_finding(table, board, finds(table, board)))

    def test_a_table_through_a_chain_with_a_hurt_link(self):
        random_one = random.Random(282)
        kinds = set()
        for _ in range(120):
            frame = some_frame(random_one, 6)
            parts = some_parts(random_one, frame)
            chain, board = Chain.of(frame, parts), Board.of(frame, random_one.choice(plain_boards(frame)))
            link = random_one.choice(all_hurts(frame, parts))
            hurt = None if link is None else Hurt(*link)
            bench = Bench(chain, board, hurt)
            for deed in deeds_for(lone_words(frame)):
                bench.reset() if deed == ("reset",) else bench.scan(deed[1])
            told = HurtVerdict(chain, bench.deeds)
            kinds.add(told.kind)
            self.assertTrue(agrees(chain, bench.deeds, board, hurt))
            if told.kind == "joined":
                self.assertEqual(told.link, hurt.link)
                for name in frame.drivers:
                    self.assertEqual(told.with_link(name), "surely" if board.joins(name, hurt.name) else "not")
            if told.kind in ("quiet", "joined"):
                self.assertTrue(told.settled)
                for one in frame.drivers:
                    for other in frame.drivers:
                        self.assertEqual(told.says(one, other), "together" if board.joins(one, other) else "apart")
                # The kept scans are the answers to a table, as a tester takes them.
                scans, tester = Scans(chain, bench.deeds), Tester(frame)
                for word, answer in zip(scans.table.words, scans.answers) if scans.table else ():
                    tester.tell(answer, word)
                self.assertEqual(len(tester), len(scans.kept))
        self.assertEqual(kinds, {"quiet", "lifted", "ground", "joined"})

    def test_a_session_written_read_and_taken_back(self):
        random_one = random.Random(283)
        for _ in range(60):
            frame = some_frame(random_one, 6)
            board = Board.of(frame, random_one.choice(plain_boards(frame)))
            words = [Word.of(frame, {name: random_one.randint(0, frame.top) for name in frame.drivers}) for _ in range(random_one.randint(0, 4))]
            table = Table.of(frame, words)
            text = session_text(table, table.answers_of(board))
            read, answers = read_session(text)
            self.assertEqual((read, answers), (table, table.answers_of(board)))
            self.assertEqual((read_frame(frame_text(frame)), read_board(frame, board_text(board))), (frame, board))
            desk, tester = Desk(), Tester(read.frame)
            for line in text.split("\n"):
                self.assertEqual(desk(line), "ok")
            for word, answer in zip(read.words, answers):
                tester.tell(answer, word)
            self.assertEqual(desk("show"), text.replace("\n", " / "))
            self.assertEqual(desk("chart"), chart(tester.verdict).replace("\n", " / "))
            self.assertEqual((desk.tester().table, desk.tester().answers), (tester.table, tester.answers))
            for many in range(len(table), 0, -1):
                self.assertEqual(desk("undo"), "ok")
                tester.undo()
                self.assertEqual((len(desk.tester()), desk.tester().answers), (many - 1, tester.answers))
            self.assertEqual(desk("show"), frame_text(frame).replace("\n", " / "))

    def test_a_desk_that_is_asked_until_it_is_settled(self):
        frame = Frame(*[Driver(name) for name in "abcdef"], Listener("x"), top=2, ground=True, power=True)
        board = Board(frame, ["a", "b"], ["c", "x"], ["d", "ground"], ["e", "power"])
        desk = Desk()
        for line in frame_text(frame).split("\n") + ["wires a c"]:
            self.assertEqual(desk(line), "ok")
        desk("reads " + " ".join(str(level) for level in board(Word.rest(frame)).values()))
        while desk("next") != "settled":
            told = desk("next")
            word = Word.of(frame, {name: int(level) for name, level in [one.split("=") for one in told.split(" ")]})
            self.assertEqual([desk("word " + told), desk("reads " + " ".join(str(level) for level in board(word).values()))], ["ok", "ok"])
        self.assertEqual(desk("findings"), "joined a b, broken a c, joined c x, joined d ground, joined e power")
        self.assertEqual((desk("count"), desk("board")), ("1", "(a b) (c x) (d ground) (e power)"))


if __name__ == "__main__":
    unittest.main()
