import unittest

from strayjoins.boards import Board
from strayjoins.errors import InvalidWord, NoLeg, NoWord, TooMany
from strayjoins.frames import Frame
from strayjoins.legs import Driver, Listener
from strayjoins.tables import Table
from strayjoins.words import Word
from tests.brute import make_table, plain_answers, samples
from tests.values import no_integers_between, no_names, no_strings, no_tuples_or_lists

FRAME = Frame(Driver("a"), Driver("b"), Listener("c"), top=2, ground=True)
OTHER = Frame(Driver("a"), Driver("b"), Listener("c"), top=2)
LOW = Word(FRAME, a=0)
HALF = Word(FRAME, b=1)


def invalid(test, call, *args):
    with test.assertRaises(InvalidWord) as caught:
        call(*args)
    test.assertIs(caught.exception.name, None)


def too_many(test, call, *args):
    with test.assertRaises(TooMany) as caught:
        call(*args)
    test.assertEqual(caught.exception.most, 60)


class Making(unittest.TestCase):
    def test_the_rest_word_comes_first(self):
        for table in (Table(FRAME), Table.of(FRAME, []), Table.of(FRAME, ()), Table(frame=FRAME)):
            self.assertEqual(table.words, (Word.rest(FRAME),))
            self.assertEqual(len(table), 1)
            self.assertEqual(table.frame, FRAME)

    def test_words(self):
        for table in (Table(FRAME, LOW, HALF, LOW), Table.of(FRAME, [LOW, HALF, LOW]), Table.of(frame=FRAME, words=(LOW, HALF, LOW))):
            self.assertEqual(table.words, (Word.rest(FRAME), LOW, HALF, LOW))
            self.assertIs(type(table.words), tuple)
            self.assertEqual(len(table), 4)

    def test_the_rest_word_again(self):
        self.assertEqual(len(Table(FRAME, Word.rest(FRAME), Word.rest(FRAME))), 3)

    def test_numbers_of_words(self):
        self.assertEqual(Table.MOST, 60)
        for many in (57, 58, 59):
            self.assertEqual(len(Table(FRAME, *[LOW] * many)), many + 1)
            self.assertEqual(len(Table.of(FRAME, [LOW] * many)), many + 1)
        for many in (60, 61, 100):
            too_many(self, Table, FRAME, *[LOW] * many)
            too_many(self, Table.of, FRAME, [LOW] * many)

    def test_no_words(self):
        for value in no_strings() + ["rest", "", Word(OTHER, a=0), {"a": 0}]:
            invalid(self, Table, FRAME, value)
            invalid(self, Table, FRAME, LOW, value, LOW)
            invalid(self, Table.of, FRAME, [LOW, value])

    def test_of_takes_lists_and_tuples(self):
        for value in no_tuples_or_lists() + [LOW]:
            invalid(self, Table.of, FRAME, value)

    def test_no_words_ahead_of_too_many(self):
        invalid(self, Table, FRAME, *[LOW] * 60, None)
        invalid(self, Table.of, FRAME, [Word(OTHER)] + [LOW] * 60)

    def test_a_list_may_change_later(self):
        words = [LOW]
        table = Table.of(FRAME, words)
        words.append(HALF)
        self.assertEqual(len(table), 2)


class Looking(unittest.TestCase):
    def setUp(self):
        self.table = Table(FRAME, LOW, HALF)

    def test_items(self):
        self.assertEqual([self.table[0], self.table[1], self.table[2]], [Word.rest(FRAME), LOW, HALF])

    def test_no_index(self):
        for value in no_integers_between(0, 2):
            with self.assertRaises(NoWord) as caught:
                self.table[value]
            self.assertIs(caught.exception.index, value)

    def test_equal(self):
        self.assertIs(self.table == Table(FRAME, Word(FRAME, a=0, b=2), HALF), True)
        self.assertIs(self.table != Table(FRAME, Word(FRAME, a=0, b=2), HALF), False)
        for other in (Table(FRAME, HALF, LOW), Table(FRAME, LOW), Table(FRAME, LOW, HALF, HALF), Table(FRAME), Table(OTHER)):
            self.assertIs(self.table == other, False)
        self.assertIs(Table(FRAME) == Table(OTHER), False)
        for value in no_strings() + ["rest", self.table.words]:
            self.assertIs(self.table == value, False)
            self.assertIs(value == self.table, False)

    def test_driven(self):
        self.assertEqual(self.table.driven("a"), (2, 0, 2))
        self.assertEqual(self.table.driven("b"), (2, 2, 1))
        self.assertEqual(self.table.driven("c"), (2, 2, 2))
        self.assertEqual(self.table.driven("ground"), (0, 0, 0))
        self.assertEqual(Table(Frame(power=True, top=3)).driven(name="power"), (3,))
        self.assertIs(type(self.table.driven("a")), tuple)

    def test_driven_errors(self):
        for value in no_names() + ["d"]:
            if value != "ground":
                with self.assertRaises(NoLeg) as caught:
                    self.table.driven(value)
                self.assertIs(caught.exception.name, value)


class MoreAndFewer(unittest.TestCase):
    def test_add(self):
        table = Table(FRAME, LOW)
        self.assertEqual(table + HALF, Table(FRAME, LOW, HALF))
        self.assertEqual(table + Word.rest(FRAME), Table(FRAME, LOW, Word.rest(FRAME)))
        self.assertEqual(Table(FRAME) + LOW, table)
        self.assertEqual(len(table), 2)

    def test_add_errors(self):
        table = Table(FRAME, *[LOW] * 58)
        full = table + LOW
        self.assertEqual(len(full), 60)
        too_many(self, lambda: full + LOW)
        for value in no_strings() + ["rest", Word(OTHER)]:
            invalid(self, lambda: table + value)
            invalid(self, lambda: full + value)

    def test_without(self):
        table = Table(FRAME, LOW, HALF, LOW)
        self.assertEqual(table.without(1), Table(FRAME, HALF, LOW))
        self.assertEqual(table.without(2), Table(FRAME, LOW, LOW))
        self.assertEqual(table.without(index=3), Table(FRAME, LOW, HALF))
        self.assertEqual(len(table), 4)

    def test_without_errors(self):
        table = Table(FRAME, LOW, HALF)
        for value in no_integers_between(1, 2):
            with self.assertRaises(NoWord) as caught:
                table.without(value)
            self.assertIs(caught.exception.index, value)
        self.assertRaises(NoWord, Table(FRAME).without, 0)
        self.assertRaises(NoWord, Table(FRAME).without, 1)


class Answers(unittest.TestCase):
    def test_small_cases(self):
        for frame, rows, blocks in samples(12, 150):
            answers = make_table(frame, rows).answers_of(Board.of(frame, blocks))
            self.assertEqual(answers, plain_answers(frame, blocks, rows))
            self.assertIs(type(answers), list)

    def test_what_is_returned_belongs_to_the_caller(self):
        table = Table(FRAME, LOW)
        answers = table.answers_of(board=Board(FRAME))
        answers[0]["a"] = 0
        answers.append(1)
        self.assertEqual(table.answers_of(Board(FRAME)), [{"a": 2, "b": 2, "c": 2}, {"a": 0, "b": 2, "c": 2}])


if __name__ == "__main__":
    unittest.main()
