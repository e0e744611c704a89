import itertools
import random
import unittest

from strayjoins.boards import Board
from strayjoins.errors import InvalidAnswer, NoBoard, TooMany
from strayjoins.frames import Frame
from strayjoins.legs import Driver, Listener
from strayjoins.needed import needed, shows_needed
from strayjoins.tables import Table
from strayjoins.verdicts import Verdict
from strayjoins.words import Word
from tests.bent import any_values
from tests.brute import Facts, make_table, plain_answers, plain_boards, samples
from tests.values import NAMES, no_strings


class Case:
    """A table with answers, and what subsets of its words say by all boards of the frame."""

    def __init__(self, frame, rows, blocks):
        self.frame, self.rows, self.blocks = frame, rows, blocks
        self.boards = plain_boards(frame)
        self.table = make_table(frame, rows)
        self.answers = plain_answers(frame, blocks, rows)
        self.known = {}
        self.whole = self.said(range(1, len(rows) + 1))

    def said(self, indexes):
        """What the rest word and these words say of each two elements."""
        indexes = tuple(indexes)
        if indexes not in self.known:
            rows = [self.rows[index - 1] for index in indexes]
            facts = Facts(self.frame, rows, plain_answers(self.frame, self.blocks, rows), self.boards)
            self.known[indexes] = [facts.says(*pair) for pair in itertools.combinations(self.frame.members, 2)]
        return self.known[indexes]

    def needed(self):
        left = list(range(1, len(self.rows) + 1))
        for index in sorted(left, reverse=True):
            if self.said([other for other in left if other != index]) == self.whole:
                left.remove(index)
        return tuple(left)

    def right(self, indexes):
        """Whether these indexes say the same as the whole table, and none can be left out."""
        if self.said(indexes) != self.whole:
            return False
        return all(self.said([other for other in indexes if other != index]) != self.whole for index in indexes)


def cases(seed, many, most=6, rows=4):
    """Cases, in some of which words come twice."""
    random_one = random.Random(seed)
    for frame, some, blocks in samples(seed + 1, many, most, rows):
        if some and random_one.random() < 0.3:
            some = some + [random_one.choice(some)]
            random_one.shuffle(some)
        yield Case(frame, some, blocks)


class Needed(unittest.TestCase):
    def test_against_all_boards(self):
        sizes = {}
        for case in cases(211, 300):
            found = needed(case.table, case.answers)
            self.assertEqual(found, case.needed())
            self.assertIs(type(found), tuple)
            self.assertIs(shows_needed(case.table, case.answers, found), True)
            sizes[len(case.rows) - len(found)] = sizes.get(len(case.rows) - len(found), 0) + 1
        self.assertGreater(min(sizes[0], sizes[1], sizes[2]), 10)

    def test_all_sets_of_indexes(self):
        told = []
        for case in cases(213, 70, 5):
            for many in range(len(case.rows) + 1):
                for indexes in itertools.combinations(range(1, len(case.rows) + 1), many):
                    told.append(case.right(indexes))
                    self.assertIs(shows_needed(case.table, case.answers, indexes), told[-1])
        self.assertGreater(sum(told), 70)
        self.assertGreater(len(told) - sum(told), 100)

    def test_words_that_come_twice(self):
        frame = Frame(Driver("a"), Driver("b"))
        a, b, rest = Word(frame, a=0), Word(frame, b=0), Word.rest(frame)
        board = Board(frame)
        for words, told, others in (
            ([a, a], (1,), [(2,)]), ([rest], (), []), ([rest, rest, a], (3,), []), ([a, b], (1,), [(2,)]), ([b, a, a], (1,), [(2,), (3,)]),
        ):
            table = Table.of(frame, words)
            self.assertEqual(needed(table, table.answers_of(board)), told)
            for thing in [told] + others:
                self.assertIs(shows_needed(table, table.answers_of(board), thing), True)
            self.assertIs(shows_needed(table, table.answers_of(board), tuple(range(1, len(words) + 1))), len(words) == len(told))

    def test_from_the_last_one(self):
        # Either word 1 alone or the words 2 and 3 say all: the last ones are left out first.
        frame = Frame(Driver("a"), Driver("b"), Driver("c"))
        words = [Word(frame, a=0), Word(frame, b=0)]
        for order in itertools.permutations([*words, Word(frame, c=0)]):
            table = Table.of(frame, order)
            self.assertEqual(needed(table, table.answers_of(Board(frame))), (1, 2))
        frame = Frame(Driver("a"), Driver("b"), Driver("c"), top=3)
        table = Table(frame, Word(frame, a=0, b=1), Word(frame, a=0), Word(frame, b=0))
        self.assertEqual(needed(table, table.answers_of(Board(frame))), (1,))
        table = Table(frame, Word(frame, a=0), Word(frame, b=0), Word(frame, a=0, b=1))
        self.assertEqual(needed(table, table.answers_of(Board(frame))), (1, 2))
        self.assertIs(shows_needed(table, table.answers_of(Board(frame)), (3,)), True)

    def test_the_rest_word_alone(self):
        for frame in (Frame(), Frame(Driver("a"), Listener("b"), ground=True, power=True), Frame(ground=True)):
            table = Table(frame)
            answers = table.answers_of(Board(frame))
            self.assertEqual(needed(answers=answers, table=table), ())
            self.assertIs(shows_needed(thing=(), answers=answers, table=table), True)
            for value in any_values():
                self.assertIs(shows_needed(table, answers, value), value == () and type(value) is tuple)

    def test_values_that_are_no_indexes(self):
        frame = Frame(Driver("a"), Driver("b"), Driver("c"))
        table = Table(frame, Word(frame, a=0), Word(frame, b=0), Word(frame))
        answers = tuple(table.answers_of(Board(frame)))
        self.assertIs(shows_needed(table, answers, (1, 2)), True)
        wrongs = any_values() + no_strings() + [
            [1, 2], (2, 1), (1, 1, 2), (1, 2, 2), (0, 1, 2), (1, 2, 3), (1, 2, 4), (True, 2), (1, 2, False), (1, "2"), (1, None), {1: 2},
            ((1, 2),), (-1, 1, 2), (1, 2, -1), (1, [2]), (1, 2, ()), (0,), (4,), "12", (1, 2, 10 ** 50), {1: 0, 2: 0}, (1, table),
        ]
        for value in wrongs:
            self.assertIs(shows_needed(table, answers, value), False, value)

    def test_sixty_words(self):
        random_one = random.Random(215)
        frame = Frame(*[Driver(name) for name in NAMES[:20]], Listener("z"), top=2, ground=True, power=True)
        words = [Word.of(frame, {name: random_one.randint(0, 2) for name in random_one.sample(NAMES[:20], 3)}) for _ in range(59)]
        table = Table.of(frame, words)
        answers = table.answers_of(Board(frame, NAMES[:2], NAMES[5:7], [NAMES[8], "ground"], [NAMES[9], "power"]))
        found = needed(table, answers)
        self.assertLess(len(found), 59)
        self.assertIs(shows_needed(table, answers, found), True)
        self.assertIs(shows_needed(table, answers, found[1:]), False)
        self.assertIs(shows_needed(table, answers, tuple(range(1, 60))), False)


class TooManyForSmallerTables(unittest.TestCase):
    def setUp(self):
        # All of one block: a word with a single maker, or three words of which no two covers have makers, show it.
        names = NAMES[:24]
        self.frame = Frame(*[Driver(name) for name in names])
        self.lone = Word.of(self.frame, {names[0]: 0})
        pairs = [(names[0], names[1]), (names[0], names[2]), (names[1], names[2])] + list(zip(names[3::2], names[4::2]))
        self.pairs = [Word.of(self.frame, {one: 0, other: 0}) for one, other in pairs] + [Word.of(self.frame, {names[23]: 0, names[22]: 0})]
        self.board = Board(self.frame, names)

    def asked(self, words):
        table = Table.of(self.frame, words)
        return table, table.answers_of(self.board)

    def test_the_whole_table(self):
        for call in (needed, lambda *told: shows_needed(*told, None)):
            with self.assertRaises(TooMany) as caught:
                call(*self.asked(self.pairs))
            self.assertEqual(caught.exception.most, Verdict.MOST)

    def test_the_word_that_makes_it_easy(self):
        for at in (0, 3, len(self.pairs)):
            words = self.pairs[:at] + [self.lone] + self.pairs[at:]
            table, answers = self.asked(words)
            # Behind the first three words the further pairs are left out ahead of the lone word.
            self.assertEqual(needed(table, answers), (1, 2, 3) if at == 3 else (at + 1,))
            self.assertIs(shows_needed(table, answers, (at + 1,)), True)
            # The other words say the same, but Verdict raises TooMany for them.
            others = tuple(index for index in range(1, len(words) + 1) if index != at + 1)
            self.assertIs(shows_needed(table, answers, others), False)
            self.assertIs(shows_needed(table, answers, ()), False)

    def test_the_same_with_few_words(self):
        table, answers = self.asked(self.pairs[:3] + [self.lone])
        self.assertEqual(needed(table, answers), (1, 2, 3))


class Errors(unittest.TestCase):
    def test_as_of_the_verdict(self):
        frame = Frame(Driver("a"), Driver("b"))
        table = Table(frame, Word(frame, a=0))
        for answers in any_values() + no_strings() + [
            [{"a": 1, "b": 1}], [{"a": 1, "b": 1}, {"a": 0}], [{"a": 1, "b": 1}, {"a": 0, "b": 2}], [{"a": 1, "b": True}, {"a": 0, "b": 2}],
            [{"a": 1, "b": 1}, {"a": 1, "b": 1}], [{"a": 0, "b": 1}, {"a": 0, "b": 1}], [{"a": 1, "b": 1}, {"a": 0, "b": 1}, {}],
        ]:
            with self.assertRaises((InvalidAnswer, NoBoard)) as told:
                Verdict(table, answers)
            for thing in (None, (), (1,), answers):
                with self.assertRaises(type(told.exception)) as caught:
                    shows_needed(table, answers, thing)
                self.assertEqual(vars(caught.exception), vars(told.exception))
            with self.assertRaises(type(told.exception)) as caught:
                needed(table, answers)
            self.assertEqual(vars(caught.exception), vars(told.exception))


if __name__ == "__main__":
    unittest.main()
