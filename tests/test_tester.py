import itertools
import random
import unittest

from strayjoins.asking import next_word
from strayjoins.boards import Board
from strayjoins.errors import InvalidAnswer, InvalidBoard, InvalidWord, NoBoard, NothingToUndo, Settled, TooMany
from strayjoins.frames import Frame
from strayjoins.legs import Driver, Listener
from strayjoins.tables import Table
from strayjoins.tester import Tester
from strayjoins.verdicts import Verdict
from strayjoins.words import Word
from tests.bent import any_values
from tests.brute import Facts, joins, make_table, plain_answers, plain_boards, samples
from tests.values import NAMES, no_integers_between, no_strings

F = Frame(Driver("a"), Driver("b"), Listener("c"), top=2, ground=True, power=True)
REST = {"a": 2, "b": 2, "c": 2}


def told_tester(frame, rows, blocks, wires=None):
    """A tester that was told the answers of a board to these rows of levels."""
    tester = Tester(frame, wires=wires)
    for answer, levels in zip(plain_answers(frame, blocks, rows), [None, *rows]):
        tester.tell(answer, None if levels is None else Word.of(frame, levels))
    return tester


class Watched(unittest.TestCase):
    def state(self, tester):
        words = None if tester.table is None else tester.table.words
        return (words, tester.answers, tester.verdict is None, tester.wires, len(tester), list(tester.findings()))

    def unchanged(self, tester, error, call):
        """The error that a call raises, which changes nothing."""
        before, verdict = self.state(tester), tester.verdict
        with self.assertRaises(error) as caught:
            call()
        self.assertEqual(self.state(tester), before)
        self.assertIs(tester.verdict, verdict)
        return caught.exception


class Told(Watched):
    def test_at_first(self):
        for frame in (F, Frame(), Frame(power=True)):
            tester = Tester(frame)
            self.assertEqual((tester.table, tester.verdict, tester.answers, len(tester)), (None, None, [], 0))
            self.assertEqual((tester.wires, tester.wanted()), (Board(frame), Word.rest(frame)))
            self.assertIs(type(tester.answers), list)

    def test_up_to_date_behind_each_call(self):
        for frame, rows, blocks in samples(231, 60):
            tester = Tester(frame)
            answers = plain_answers(frame, blocks, rows)
            for many, answer in enumerate(answers):
                word = None if many == 0 else Word.of(frame, rows[many - 1])
                self.assertIs(tester.tell(answer, word), None)
                table = make_table(frame, rows[:many])
                self.assertEqual((tester.table, tester.answers, len(tester)), (table, answers[:many + 1], many + 1))
                self.assertIs(type(tester.verdict), Verdict)
                self.assertEqual(tester.verdict.table, table)
                self.assertEqual((tester.verdict.bundles, tester.verdict.answers), (Verdict(table, answers[:many + 1]).bundles, answers[:many + 1]))

    def test_the_first_word(self):
        for tell in (lambda one: one.tell(REST), lambda one: one.tell(REST, None), lambda one: one.tell(REST, Word.rest(F)),
                     lambda one: one.tell(word=Word(F, a=2), answer=REST)):
            tester = Tester(F)
            tell(tester)
            self.assertEqual((len(tester), tester.table), (1, Table(F)))

    def test_words_that_are_told_ahead_of_the_rest_word(self):
        tester = Tester(F)
        wrongs = any_values() + no_strings() + [Word(F, a=0), Word(Frame(*F.legs, top=2, ground=True)), Word(Frame()), "rest", Word(F, b=1)]
        for value in wrongs:
            if value is not None and value != Word(F):
                for answer in (REST, None, {}):
                    self.assertEqual(self.unchanged(tester, InvalidWord, lambda: tester.tell(answer, value)).name, None)

    def test_later_words(self):
        tester = Tester(F)
        tester.tell(REST)
        for value in any_values() + no_strings() + [None, "rest", Word(Frame(*F.legs, top=2, ground=True)), Word(Frame())]:
            for answer in (REST, None, {}):
                self.assertEqual(self.unchanged(tester, InvalidWord, lambda: tester.tell(answer, value)).name, None)
        self.assertEqual(self.unchanged(tester, InvalidWord, lambda: tester.tell(REST)).name, None)
        tester.tell(REST, Word(F))
        self.assertEqual(len(tester), 2)

    def test_answers(self):
        for many in range(3):
            tester = told_tester(F, [{}] * (many - 1), plain_boards(F)[0]) if many else Tester(F)
            word = Word(F) if many else None
            for value in no_strings() + ["", [], [REST], {"a": 2}, {"a": 2, "b": 2, "c": 2, "d": 2}, {"a": 2, "b": 2, 1: 2}]:
                error = self.unchanged(tester, InvalidAnswer, lambda: tester.tell(value, word))
                self.assertEqual((error.index, error.name), (many, None))
            for value in no_integers_between(0, 2):
                for name in "abc":
                    error = self.unchanged(tester, InvalidAnswer, lambda: tester.tell({**REST, name: value}, word))
                    self.assertEqual((error.index, error.name), (many, name))
            error = self.unchanged(tester, InvalidAnswer, lambda: tester.tell({**REST, "c": 3, "b": None}, word))
            self.assertEqual((error.index, error.name), (many, "b"))

    def test_no_board(self):
        frame = Frame(Driver("a"), Driver("b"), Driver("c"))
        tester = Tester(frame)
        error = self.unchanged(tester, NoBoard, lambda: tester.tell({"a": 1, "b": 0, "c": 1}))
        self.assertEqual((error.index, error.name), (0, "b"))
        tester.tell({"a": 1, "b": 1, "c": 1})
        tester.tell({"a": 0, "b": 0, "c": 0}, Word(frame, a=0))
        # Only together with a can b read 0 at the word 1: the fault is told there.
        error = self.unchanged(tester, NoBoard, lambda: tester.tell({"a": 1, "b": 0, "c": 1}, Word(frame, b=0)))
        self.assertEqual((error.index, error.name), (1, "b"))
        error = self.unchanged(tester, NoBoard, lambda: tester.tell({"a": 1, "b": 1, "c": 1}, Word(frame, c=0)))
        self.assertEqual((error.index, error.name), (2, "c"))

    def test_sixty_words(self):
        frame = Frame(Driver("a"), Driver("b"))
        tester = Tester(frame)
        for at in range(60):
            tester.tell({"a": 1 - at % 2, "b": 1}, None if at == 0 else Word(frame, a=1 - at % 2))
        self.assertEqual((len(tester), len(tester.table)), (60, 60))
        for answer in ({"a": 1, "b": 1}, {}, None, {"a": 1, "b": 0}):
            self.assertEqual(self.unchanged(tester, TooMany, lambda: tester.tell(answer, Word(frame))).most, 60)
            for value in (None, "rest", Word(Frame())):
                self.unchanged(tester, InvalidWord, lambda: tester.tell(answer, value))
        tester.undo()
        tester.tell({"a": 1, "b": 1}, Word(frame))
        self.assertEqual(len(tester), 60)

    def test_too_many_as_the_verdict(self):
        names = NAMES[:24]
        frame = Frame(*[Driver(name) for name in names])
        tester = Tester(frame)
        tester.tell({name: 1 for name in names})
        for at in range(0, 12, 2):
            tester.tell({name: 0 for name in names}, Word.of(frame, {names[at]: 0, names[at + 1]: 0}))
        word = Word.of(frame, {names[22]: 0, names[23]: 0})
        self.assertEqual(self.unchanged(tester, TooMany, lambda: tester.tell({name: 0 for name in names}, word)).most, Verdict.MOST)

    def test_what_was_told_or_returned_may_be_changed(self):
        tester = Tester(F)
        answer = dict(REST)
        tester.tell(answer)
        answer["a"] = 0
        answers = tester.answers
        self.assertEqual(answers, [REST])
        answers[0]["a"] = 1
        answers.append(1)
        self.assertEqual((tester.answers, tester.verdict.answers), ([REST], [REST]))
        tester.tell({"a": 0, "b": 2, "c": 2}, Word(F, a=0))
        self.assertEqual(tester.answers[0], REST)

    def test_older_verdicts_stay(self):
        tester = told_tester(F, [{"a": 0}], (("a",), ("b",), ("c",), ("ground",), ("power",)))
        verdict, table = tester.verdict, tester.table
        tester.tell({"a": 2, "b": 0, "c": 2}, Word(F, b=0))
        self.assertEqual((len(verdict.table), len(table), len(tester.table)), (2, 2, 3))


class Wanted(Watched):
    def test_words_that_settle(self):
        for frame, _, blocks in samples(232, 60):
            board, tester = Board.of(frame, blocks), Tester(frame)
            for _ in range(40):
                try:
                    word = tester.wanted()
                except Settled:
                    break
                self.assertEqual(word, Word(frame) if len(tester) == 0 else next_word(tester.verdict))
                tester.tell(board(word), word)
            self.assertIs(tester.verdict.settled, True)
            self.unchanged(tester, Settled, tester.wanted)

    def test_the_rest_word_comes_first(self):
        tester = Tester(Frame())
        self.assertEqual(tester.wanted(), Word(Frame()))
        tester.tell({})
        self.unchanged(tester, Settled, tester.wanted)


class Wires(Watched):
    def test_ways_to_set_them(self):
        same = Frame(*F.legs[::-1], top=2, ground=True, power=True)
        board, other = Board(F, ["a", "b"]), Board(same, ["c", "power"])
        tester = Tester(F, wires=board)
        self.assertEqual(tester.wires, board)
        self.assertIs(tester.set_wires(other), None)
        self.assertEqual(tester.wires, other)
        tester.wires = board
        self.assertEqual(tester.wires, board)
        tester.wires = None
        self.assertEqual(tester.wires, Board(F))
        tester.set_wires(wires=board)
        tester.set_wires(None)
        self.assertEqual((tester.wires, Tester(F, wires=None).wires), (Board(F), Board(F)))
        self.assertIs(type(tester.wires), Board)

    def assign(self, tester, value):
        tester.wires = value

    def test_other_values(self):
        others = [Board(Frame()), Board(Frame(*F.legs, top=2, ground=True)), Board(Frame(*F.legs, top=3, ground=True, power=True))]
        tester = Tester(F, wires=Board(F, ["a", "b"]))
        tester.tell(REST)
        for value in any_values() + no_strings() + others:
            if value is None:
                continue
            for call in (lambda: Tester(F, wires=value), lambda: tester.set_wires(value), lambda: self.assign(tester, value)):
                self.assertEqual(self.unchanged(tester, InvalidBoard, call).reason, "frame")

    def test_words_and_answers_stay(self):
        tester = told_tester(F, [{"a": 0}], (("a",), ("b",), ("c",), ("ground",), ("power",)))
        verdict = tester.verdict
        tester.wires = Board(F, ["a", "b"])
        self.assertIs(tester.verdict, verdict)
        self.assertEqual(len(tester), 2)
        tester.undo(2)
        self.assertEqual(tester.wires, Board(F, ["a", "b"]))


class Findings(Watched):
    def test_against_all_boards(self):
        random_one = random.Random(233)
        found = set()
        for frame, rows, blocks in samples(234, 150):
            wires = random_one.choice(plain_boards(frame))
            tester = told_tester(frame, rows, blocks, Board.of(frame, wires))
            facts = Facts(frame, rows, plain_answers(frame, blocks, rows))
            expected = []
            for one, other in itertools.combinations(frame.members, 2):
                said = facts.says(one, other)
                if said == "open":
                    expected.append(("unsure", one, other))
                elif said == "apart" and joins(wires, one, other):
                    expected.append(("broken", one, other))
                elif said == "together" and not joins(wires, one, other):
                    expected.append(("joined", one, other))
            self.assertEqual(list(tester.findings()), expected)
            found.update(row[0] for row in expected)
            self.assertEqual({type(row) for row in tester.findings()} - {tuple}, set())
        self.assertEqual(found, {"broken", "joined", "unsure"})

    def test_before_the_first_answer(self):
        for wires in (None, Board(F, ["a", "b"])):
            pairs = [pair for pair in itertools.combinations(F.members, 2) if pair != ("ground", "power")]
            self.assertEqual(list(Tester(F, wires=wires).findings()), [("unsure", *pair) for pair in pairs])
        self.assertEqual(list(Tester(Frame()).findings()), [])

    def test_by_turns(self):
        one, other = Tester(F), told_tester(F, [{"a": 0}], (("a",), ("b", "c"), ("ground",), ("power",)), Board(F, ["a", "c"]))
        told = [list(one.findings()), list(other.findings()), list(other.findings())]
        walked = list(itertools.zip_longest(one.findings(), other.findings(), other.findings()))
        self.assertEqual([[row[at] for row in walked if row[at] is not None] for at in range(3)], told)


class Undone(Watched):
    def test_counts(self):
        for frame, rows, blocks in samples(235, 50):
            states = []
            tester = Tester(frame)
            for many in range(len(rows) + 2):
                states.append(self.state(tester))
                if many <= len(rows):
                    tester.tell(plain_answers(frame, blocks, rows)[many], None if many == 0 else Word.of(frame, rows[many - 1]))
            for count in range(len(rows) + 2):
                other = told_tester(frame, rows, blocks)
                self.assertIs(other.undo(count), None)
                self.assertEqual(self.state(other), states[len(rows) + 1 - count])
            tester.undo()
            self.assertEqual(self.state(tester), states[len(rows)])
            tester.undo(count=0)
            self.assertEqual(self.state(tester), states[len(rows)])

    def test_other_values(self):
        for many in range(3):
            tester = told_tester(F, [{}] * (many - 1), plain_boards(F)[0]) if many else Tester(F)
            for value in no_integers_between(0, many) + [many + 1, -1]:
                self.unchanged(tester, NothingToUndo, lambda: tester.undo(value))
            if many == 0:
                self.unchanged(tester, NothingToUndo, tester.undo)

    def test_other_answers_behind_it(self):
        tester = told_tester(F, [{"a": 0}], (("a", "b"), ("c",), ("ground",), ("power",)), Board(F, ["a", "b"]))
        tester.undo()
        tester.tell({"a": 0, "b": 2, "c": 2}, Word(F, a=0))
        self.assertIn(("broken", "a", "b"), list(tester.findings()))


class Trials(Watched):
    def setUp(self):
        self.tester = told_tester(F, [{"a": 0}], (("a", "b"), ("c",), ("ground",), ("power",)), Board(F, ["a", "b"]))
        self.before = self.state(self.tester)

    def test_a_block(self):
        tester, verdict = self.tester, self.tester.verdict
        with tester.trial() as same:
            self.assertIs(same, tester)
            tester.tell({"a": 0, "b": 0, "c": 2}, Word(F, b=0))
            tester.wires = None
            self.assertEqual((len(tester), tester.wires), (3, Board(F)))
        self.assertEqual(self.state(tester), self.before)
        self.assertIs(tester.verdict, verdict)
        with tester.trial():
            tester.undo(2)
            self.assertEqual((tester.verdict, tester.answers), (None, []))
        self.assertEqual(self.state(tester), self.before)

    def test_one_within_another(self):
        tester = self.tester
        with tester.trial():
            tester.undo()
            tester.set_wires(Board(F, ["a", "power"]))
            inner = self.state(tester)
            with tester.trial():
                tester.undo()
                self.assertEqual(tester.tried(lambda one: (one.tell(REST), len(one))[1]), 1)
                self.assertEqual(len(tester), 0)
            self.assertEqual(self.state(tester), inner)
        self.assertEqual(self.state(tester), self.before)

    def test_tried(self):
        self.assertIs(self.tester.tried(deed=lambda one: one), self.tester)
        self.assertEqual(self.tester.tried(lambda one: (one.undo(), one.set_wires(None), len(one))), (None, None, 1))
        self.assertEqual(self.state(self.tester), self.before)

    def test_errors(self):
        for error in (KeyError("x"), NoBoard(1, "a"), Settled(), StopIteration()):
            with self.assertRaises(type(error)) as caught:
                with self.tester.trial() as same:
                    same.undo()
                    raise error
            self.assertIs(caught.exception, error)
            self.assertEqual(self.state(self.tester), self.before)

            def deed(one):
                one.wires = None
                raise error
            with self.assertRaises(type(error)) as caught:
                self.tester.tried(deed)
            self.assertIs(caught.exception, error)
            self.assertEqual(self.state(self.tester), self.before)
        with self.assertRaises(InvalidWord):
            self.tester.tried(lambda one: (one.undo(), one.tell(REST)))
        self.assertEqual(self.state(self.tester), self.before)

    def test_two_testers_by_turns(self):
        other = told_tester(F, [], (("a", "b"), ("c",), ("ground",), ("power",)))
        with self.tester.trial():
            self.tester.undo()
            with other.trial():
                other.undo()
                self.tester.undo()
            self.assertEqual((len(self.tester), len(other)), (0, 1))
        self.assertEqual(self.state(self.tester), self.before)


if __name__ == "__main__":
    unittest.main()
