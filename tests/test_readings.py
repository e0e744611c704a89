import itertools
import random
import unittest

from strayjoins.boards import Board, every_board
from strayjoins.errors import InvalidAnswer, NoBoard, NoLeg, NoWord
from strayjoins.frames import Frame
from strayjoins.legs import Driver, Listener
from strayjoins.readings import Readings
from strayjoins.tables import Table
from strayjoins.words import Word
from tests.brute import Facts, make_table, plain_answers, plain_boards, samples, some_frame, some_rows
from tests.values import no_integers_between, no_names, no_strings, no_tuples_or_lists

FRAME = Frame(Driver("a"), Driver("b"), Listener("c"), top=2, power=True)
TABLE = Table(FRAME, Word(FRAME, a=0), Word(FRAME, b=1))
ANSWERS = [{"a": 2, "b": 2, "c": 2}, {"a": 0, "b": 2, "c": 0}, {"a": 2, "b": 1, "c": 2}]


def invalid(test, table, answers):
    with test.assertRaises(InvalidAnswer) as caught:
        Readings(table, answers)
    return (caught.exception.index, caught.exception.name)


def missing(test, table, answers):
    with test.assertRaises(NoBoard) as caught:
        Readings(table, answers)
    return (caught.exception.index, caught.exception.name)


def changed(index, name, level):
    answers = [dict(answer) for answer in ANSWERS]
    answers[index][name] = level
    return answers


class Answers(unittest.TestCase):
    def test_lists_and_tuples(self):
        for answers in (ANSWERS, tuple(ANSWERS), [{"c": answer["c"], "b": answer["b"], "a": answer["a"]} for answer in ANSWERS]):
            readings = Readings(TABLE, answers)
            self.assertEqual(readings.table, TABLE)
            self.assertEqual(readings.answers, ANSWERS)
            self.assertIs(type(readings.answers), list)
        self.assertEqual(Readings(table=TABLE, answers=ANSWERS).answers, ANSWERS)

    def test_no_rows_of_answers(self):
        for value in no_tuples_or_lists() + [[], (), ANSWERS[:2], ANSWERS + ANSWERS[:1], ANSWERS[0]]:
            self.assertEqual(invalid(self, TABLE, value), (None, None))

    def test_a_wrong_number_comes_first(self):
        self.assertEqual(invalid(self, TABLE, [None, {}]), (None, None))
        self.assertEqual(invalid(self, TABLE, ANSWERS + [None]), (None, None))

    def test_no_full_answers(self):
        wrong = [value for value in no_strings() + ["", "a"]] + [
            {"a": 2, "b": 2}, {"a": 2, "b": 2, "c": 2, "d": 2}, {"a": 2, "b": 2, "d": 2}, {"a": 2, "b": 2, "c": 2, "power": 2},
            {"a": 2, "b": 2, 1: 2}, {"a": 2, "b": 2, None: 2}, {"a": 2, "b": 2, ("c",): 2},
        ]
        for value in wrong:
            for index in range(3):
                answers = list(ANSWERS)
                answers[index] = value
                self.assertEqual(invalid(self, TABLE, answers), (index, None))

    def test_wrong_levels(self):
        for value in no_integers_between(0, 2):
            for index in range(3):
                for name in "abc":
                    self.assertEqual(invalid(self, TABLE, changed(index, name, value)), (index, name))

    def test_the_first_wrong_answer(self):
        one = changed(1, "b", 3)
        one[2]["a"] = -1
        self.assertEqual(invalid(self, TABLE, one), (1, "b"))
        one[1]["c"] = True
        self.assertEqual(invalid(self, TABLE, one), (1, "b"))
        one[1]["a"] = None
        self.assertEqual(invalid(self, TABLE, one), (1, "a"))
        one[0]["c"] = 9
        self.assertEqual(invalid(self, TABLE, one), (0, "c"))

    def test_full_answers_are_looked_at_ahead_of_levels(self):
        answers = changed(0, "a", 9)
        answers[2] = {}
        self.assertEqual(invalid(self, TABLE, answers), (2, None))
        answers[1] = []
        self.assertEqual(invalid(self, TABLE, answers), (1, None))

    def test_wrong_answers_ahead_of_no_board(self):
        answers = changed(0, "a", 0)
        self.assertEqual(missing(self, TABLE, answers), (0, "a"))
        answers[2]["c"] = True
        self.assertEqual(invalid(self, TABLE, answers), (2, "c"))

    def test_without_legs(self):
        frame = Frame(power=True)
        self.assertEqual(Readings(Table(frame), [{}]).answers, [{}])
        self.assertEqual(invalid(self, Table(frame), [{"power": 1}]), (0, None))

    def test_lists_may_change_later(self):
        answers = [dict(answer) for answer in ANSWERS]
        readings = Readings(TABLE, answers)
        self.assertEqual(answers, ANSWERS)
        answers[1]["b"] = 0
        answers.append({})
        self.assertEqual(readings.answers, ANSWERS)
        self.assertEqual(readings.levels("b"), (2, 2, 1))

    def test_what_is_returned_is_new_each_time(self):
        readings = Readings(TABLE, ANSWERS)
        readings.answers[1]["b"] = 0
        readings.answers.append({})
        self.assertEqual(readings.answers, ANSWERS)
        self.assertTrue(readings.fits(Board(FRAME, ["a", "c"])))


class NoBoards(unittest.TestCase):
    def test_all_answers_of_small_frames(self):
        frames = [
            Frame(Driver("a"), Driver("b")), Frame(Driver("a"), Listener("b"), power=True), Frame(Driver("a"), ground=True),
            Frame(Driver("h"), ground=True, power=True), Frame(Listener("a"), Listener("b")), Frame(Driver("a"), Driver("b"), power=True),
        ]
        for frame in frames:
            boards = plain_boards(frame)
            for rows in ([], [{frame.names[0]: 0}] if frame.drivers else [], [{name: 0} for name in frame.drivers]):
                self.through_all(frame, rows, boards)

    def through_all(self, frame, rows, boards):
        table = make_table(frame, rows)
        names = frame.names
        for levels in itertools.product(range(frame.top + 1), repeat=len(names) * len(table)):
            answers = [dict(zip(names, levels[at * len(names):])) for at in range(len(table))]
            self.look(frame, rows, table, answers, boards)

    def look(self, frame, rows, table, answers, boards):
        facts = Facts(frame, rows, answers, boards)
        if facts.fitting:
            self.assertEqual(Readings(table, answers).answers, answers)
        else:
            self.assertEqual(missing(self, table, answers), facts.faults()[0])

    def test_some_answers(self):
        random_one = random.Random(31)
        for _ in range(400):
            frame = some_frame(random_one, 5)
            rows = some_rows(random_one, frame, 3)
            boards = plain_boards(frame)
            answers = plain_answers(frame, random_one.choice(boards), rows)
            for _ in range(random_one.randint(0, 2)):
                if frame.names:
                    random_one.choice(answers)[random_one.choice(frame.names)] = random_one.randint(0, frame.top)
            self.look(frame, rows, make_table(frame, rows), answers, boards)

    def test_too_high(self):
        frame = Frame(Driver("a"), Driver("b"), top=3)
        table = Table(frame, Word(frame, b=1), Word(frame, a=2))
        self.assertEqual(missing(self, table, [{"a": 3, "b": 3}, {"a": 3, "b": 2}, {"a": 2, "b": 3}]), (1, "b"))

    def test_locked_legs(self):
        for power in (False, True):
            frame = Frame(Driver("a"), Driver("b"), power=power)
            table = Table(frame, Word(frame, b=0), Word(frame, a=0))
            answers = [{"a": 1, "b": 1}] * 3
            if power:
                self.assertEqual(Readings(table, answers).locked, ("a", "b"))
            else:
                self.assertEqual(missing(self, table, answers), (1, "b"))

    def test_a_leg_that_is_not_idle_is_not_locked(self):
        frame = Frame(Driver("a"), power=True)
        table = Table(frame, Word(frame, a=0), Word(frame, a=0))
        self.assertEqual(missing(self, table, [{"a": 1}, {"a": 1}, {"a": 0}]), (1, "a"))

    def test_no_maker(self):
        frame = Frame(Driver("a"), Driver("b"), Driver("c"), ground=True)
        table = Table(frame, Word(frame, a=0), Word(frame, c=0))
        told = [{"a": 1, "b": 1, "c": 1}, {"a": 0, "b": 1, "c": 1}, {"a": 1, "b": 0, "c": 0}]
        self.assertEqual(Readings(table, told).classes, (("a",), ("b", "c"), ("ground",)))
        self.assertEqual(missing(self, table, [told[0], told[0] | {"b": 0, "c": 0, "a": 0}, told[2]]), (1, "b"))
        self.assertEqual(missing(self, table, [told[0], told[1], told[2] | {"c": 1}]), (2, "b"))
        self.assertEqual(Readings(table, [told[0] | {"c": 0}, told[1] | {"c": 0}, told[0] | {"c": 0}]).class_of("c"), ("c", "ground"))

    def test_low_at_rest(self):
        frame = Frame(Driver("a"), Listener("b"), top=2)
        self.assertEqual(missing(self, Table(frame), [{"a": 2, "b": 0}]), (0, "b"))
        self.assertEqual(missing(self, Table(frame), [{"a": 0, "b": 0}]), (0, "a"))
        grounded = Frame(Driver("a"), Listener("b"), top=2, ground=True)
        self.assertEqual(Readings(Table(grounded), [{"a": 2, "b": 0}]).classes, (("a",), ("b", "ground")))
        self.assertEqual(missing(self, Table(grounded), [{"a": 2, "b": 1}]), (0, "b"))

    def test_the_least_fault(self):
        frame = Frame(Driver("a"), Driver("b"), Driver("c"))
        table = Table(frame, Word(frame, c=0), Word(frame, a=0))
        # b has no maker at the word 1, a reads too much at the word 2, and c at the word 1.
        answers = [{"a": 1, "b": 1, "c": 1}, {"a": 1, "b": 0, "c": 1}, {"a": 1, "b": 1, "c": 1}]
        self.assertEqual(missing(self, table, answers), (1, "b"))
        answers[1]["b"] = 1
        self.assertEqual(missing(self, table, answers), (1, "c"))
        answers[1]["c"] = 0
        self.assertEqual(missing(self, table, answers), (2, "a"))


class Classes(unittest.TestCase):
    def test_small_cases(self):
        for frame, rows, blocks in samples(32, 400):
            answers = plain_answers(frame, blocks, rows)
            readings = Readings(make_table(frame, rows), answers)
            facts = Facts(frame, rows, answers, [blocks])
            self.assertEqual(readings.classes, facts.classes)
            self.assertEqual((readings.idle, readings.locked, readings.mute), (facts.idle, facts.locked, facts.mute))
            for name in frame.members:
                self.assertEqual(readings.levels(name), facts.levels[name])
                self.assertEqual(readings.class_of(name), facts.class_of(name))
                makers = facts.makers(name)
                self.assertEqual(readings.marked(name), tuple(sorted(makers)))
                for index in range(len(rows) + 1):
                    self.assertEqual(readings.makers(name, index), makers.get(index, ()))

    def test_kinds_of_values(self):
        readings = Readings(TABLE, ANSWERS)
        self.assertEqual(readings.classes, (("a", "c"), ("b",), ("power",)))
        self.assertEqual((readings.idle, readings.locked, readings.mute), (("power",), (), ()))
        rows = (readings.classes, readings.idle, readings.locked, readings.mute, readings.levels("a"), readings.class_of("a"),
                readings.marked("a"), readings.makers("a", 1), readings.makers("b", 2))
        self.assertEqual({type(row) for row in rows}, {tuple})
        self.assertEqual(readings.levels("power"), (2, 2, 2))

    def test_without_an_idle_class(self):
        frame = Frame(Driver("a"), ground=True)
        readings = Readings(Table(frame), [{"a": 0}])
        self.assertEqual((readings.classes, readings.idle), ((("a", "ground"),), ()))
        self.assertEqual((readings.levels("ground"), readings.makers("a", 0)), ((0,), ("ground",)))
        empty = Readings(Table(Frame()), [{}])
        self.assertEqual((empty.classes, empty.idle, empty.locked, empty.mute), ((), (), (), ()))

    def test_makers_are_driven_at_the_level_that_is_read(self):
        frame = Frame(Driver("a"), Driver("b"), Driver("d"), Listener("c"), top=3)
        table = Table(frame, Word(frame, a=1, b=2), Word(frame, a=1, b=1, d=1), Word(frame, d=2))
        readings = Readings(table, table.answers_of(Board(frame, ["a", "b", "c", "d"])))
        self.assertEqual([readings.makers("c", index) for index in range(4)], [(), ("a",), ("a", "b", "d"), ("d",)])
        self.assertEqual(readings.marked("c"), (1, 2, 3))

    def test_no_leg(self):
        readings = Readings(TABLE, ANSWERS)
        for value in no_names() + ["d", "ab"]:
            if value != "power":
                calls = (readings.levels, readings.class_of, readings.marked, lambda name: readings.makers(name, 0),
                         lambda name: readings.makers(name, None))
                for call in calls:
                    with self.assertRaises(NoLeg) as caught:
                        call(value)
                    self.assertIs(caught.exception.name, value)

    def test_no_word(self):
        readings = Readings(TABLE, ANSWERS)
        for value in no_integers_between(0, 2):
            for name in ("a", "power"):
                with self.assertRaises(NoWord) as caught:
                    readings.makers(name, value)
                self.assertIs(caught.exception.index, value)

    def test_by_name(self):
        readings = Readings(TABLE, ANSWERS)
        self.assertEqual(readings.levels(name="b"), (2, 2, 1))
        self.assertEqual(readings.class_of(name="a"), ("a", "c"))
        self.assertEqual(readings.marked(name="a"), (1,))
        self.assertEqual(readings.makers(name="a", index=1), ("a",))
        self.assertIs(readings.is_cover(names=["a"]), True)
        self.assertIs(readings.fits(board=Board(FRAME)), False)


class Covers(unittest.TestCase):
    def test_small_cases(self):
        for frame, rows, blocks in samples(33, 150, most=5):
            answers = plain_answers(frame, blocks, rows)
            readings = Readings(make_table(frame, rows), answers)
            facts = Facts(frame, rows, answers, [blocks])
            for many in range(0, len(frame.members) + 1):
                for names in itertools.permutations(frame.members, many):
                    expected = many > 0 and set(names) <= set(facts.class_of(names[0])) and names[0] not in facts.idle
                    expected = expected and all(set(names) & set(makers) for makers in facts.makers(names[0]).values())
                    self.assertIs(readings.is_cover(names), expected)
                    self.assertIs(readings.is_cover(list(names)), expected)

    def test_other_values(self):
        readings = Readings(TABLE, ANSWERS)
        self.assertIs(readings.is_cover(("a", "c")), True)
        for value in no_strings() + ["a", "", ("a", "a"), ["a", "c", "a"], ("a", "b"), ("a", "d"), ("a", None), ("power",),
                                       ("c",), ("d", "a"), [None, "a"], [["a"], "a"], ({}, "a"), [("a", "c")]]:
            if value not in (["a"], ("a",)) or not isinstance(value, (list, tuple)):
                self.assertIs(readings.is_cover(value), False, repr(value)[:80])


class Fits(unittest.TestCase):
    def test_small_cases(self):
        for frame, rows, blocks in samples(34, 60, most=5):
            answers = plain_answers(frame, blocks, rows)
            readings = Readings(make_table(frame, rows), answers)
            for board in every_board(frame):
                self.assertIs(readings.fits(board), plain_answers(frame, board.blocks, rows) == answers)


if __name__ == "__main__":
    unittest.main()
