import functools
import itertools
import math
import unittest

from strayjoins.boards import Board
from strayjoins.counting import boards, count
from strayjoins.frames import Frame
from strayjoins.legs import Driver, Listener
from strayjoins.tables import Table
from strayjoins.verdicts import Verdict
from strayjoins.words import Word
from tests.brute import Facts, make_table, plain_answers, samples
from tests.values import NAMES


def bell(many):
    """The number of ways to part so many things, by the block of the first one."""
    numbers = [1]
    for size in range(many):
        numbers.append(sum(math.comb(size, others) * numbers[size - others] for others in range(size + 1)))
    return numbers[many]


@functools.cache
def stirling(many, blocks):
    """The number of ways to part so many things into so many blocks."""
    if many == 0 or blocks == 0:
        return int(many == blocks)
    return blocks * stirling(many - 1, blocks) + stirling(many - 1, blocks - 1)


def first_boards(verdict, many):
    return list(itertools.islice(boards(verdict), many))


class AgainstAllBoards(unittest.TestCase):
    def look_at(self, frame, rows, blocks):
        answers = plain_answers(frame, blocks, rows)
        facts = Facts(frame, rows, answers)
        verdict = Verdict(make_table(frame, rows), answers)
        found = list(boards(verdict))
        self.assertTrue(all(type(board) is Board and board.frame == frame for board in found))
        self.assertEqual(sorted(board.blocks for board in found), sorted(facts.fitting))
        self.assertEqual(count(verdict), len(facts.fitting))
        return len(facts.fitting)

    def test_some_frames(self):
        numbers = [self.look_at(*case) for case in samples(81, 300)]
        self.assertGreater(len(set(numbers)), 10)

    def test_one_class(self):
        # All legs joined: classes with many covers, among them alike makers and elements that make no word.
        for frame, rows, _ in samples(82, 150, most=7, rows=3):
            if not frame.rails and frame.names:
                self.look_at(frame, rows + [{name: 0 for name in frame.drivers}], (frame.members,))

    def test_no_elements(self):
        frame = Frame()
        verdict = Verdict(Table(frame), [{}])
        self.assertEqual(count(verdict), 1)
        self.assertEqual(list(boards(verdict)), [Board(frame)])

    def test_rails_alone(self):
        frame = Frame(ground=True, power=True)
        verdict = Verdict(Table(frame), [{}])
        self.assertEqual(count(verdict), 1)
        self.assertEqual(list(boards(verdict)), [Board(frame)])


class Numbers(unittest.TestCase):
    def idle(self, many, **rails):
        frame = Frame(*[Driver(name) if at % 3 else Listener(name) for at, name in enumerate(NAMES[:many])], **rails)
        return Verdict(Table(frame), [{name: 1 for name in frame.names}])

    def test_great_numbers_of_the_idle_class(self):
        for many in (0, 1, 2, 3, 10, 39, 40):
            self.assertEqual(count(self.idle(many)), bell(many))
            self.assertEqual(count(self.idle(many, power=True)), bell(many + 1))
            self.assertEqual(count(self.idle(many, power=True, ground=True)), bell(many + 1))

    def test_locked_legs_are_one_thing(self):
        frame = Frame(*[Driver(name) for name in NAMES[:30]], power=True)
        word = Word.of(frame, dict.fromkeys(NAMES[:10], 0))
        verdict = Verdict(Table(frame, word), [dict.fromkeys(frame.names, 1)] * 2)
        self.assertEqual(count(verdict), bell(21))

    def joined(self, sizes, others):
        """The verdict of a class with so many makers for each of these words, and so many elements that make none."""
        names = NAMES[:sum(sizes) + others]
        frame = Frame(*[Driver(name) for name in names[:sum(sizes)]], *[Listener(name) for name in names[sum(sizes):]])
        rows, left = [], list(names)
        for size in sizes:
            rows.append(dict.fromkeys(left[:size], 0))
            left = left[size:]
        table = make_table(frame, rows)
        return Verdict(table, table.answers_of(Board(frame, names)))

    def test_great_numbers_of_alike_makers(self):
        for many, others in ((1, 0), (2, 0), (2, 3), (5, 4), (20, 20), (40, 0), (1, 39)):
            expected = sum(stirling(many, covers) * covers ** others for covers in range(1, many + 1)) if many > 1 else 1
            self.assertEqual(count(self.joined([many], others)), expected)

    def test_great_numbers_of_two_words(self):
        # Each cover has makers of both words: the makers of one word are spread over the covers of the other one.
        for one, other, others in ((2, 2, 0), (2, 3, 1), (5, 7, 2), (20, 20, 0), (15, 12, 13), (1, 39, 0)):
            expected = sum(
                stirling(one, covers) * math.factorial(covers) * stirling(other, covers) * covers ** others
                for covers in range(1, min(one, other) + 1)
            )
            self.assertEqual(count(self.joined([one, other], others)), expected)

    def test_single_makers(self):
        self.assertEqual(count(self.joined([1] * 40, 0)), 1)
        verdict = self.joined([1] * 30, 10)
        self.assertEqual(first_boards(verdict, 2), [Board(verdict.table.frame, NAMES[:40])])

    def test_classes_are_multiplied(self):
        frame = Frame(*[Driver(name) for name in NAMES[:40]])
        rows = [dict.fromkeys(NAMES[start:start + 10], 0) for start in (0, 10, 20)]
        table = make_table(frame, rows)
        verdict = Verdict(table, table.answers_of(Board(frame, *[NAMES[start:start + 10] for start in (0, 10, 20)])))
        self.assertEqual(count(verdict), bell(10) ** 4)
        self.look_at_first(verdict)

    def look_at_first(self, verdict):
        found = first_boards(verdict, 200)
        self.assertEqual(len({board.blocks for board in found}), min(200, count(verdict)))
        self.assertTrue(all(verdict.fits(board) for board in found))

    def test_the_first_ones_come_at_once(self):
        for sizes, others in (([40], 0), ([20], 20), ([20, 20], 0), ([3, 3, 3, 3, 3], 25), ([1], 39), ([2], 38), ([9, 9, 9], 13), ([37, 2], 1), ([2, 35, 3], 0)):
            self.look_at_first(self.joined(sizes, others))
        for many in (3, 30, 40):
            self.look_at_first(self.idle(many, power=True))
            self.look_at_first(self.idle(many))

    def test_the_first_ones_of_ten_kinds(self):
        frame = Frame(*[Driver(name) for name in NAMES[:40]])
        pairs = list(itertools.combinations(NAMES[:10], 2))
        rows = [dict.fromkeys(set(NAMES[:10]) - set(pair), 0) for pair in pairs]
        table = make_table(frame, rows)
        verdict = Verdict(table, table.answers_of(Board(frame, NAMES[:40])))
        self.look_at_first(verdict)
        # Each three of the ten makers are a cover, and no two are.
        ways = {1: 1, 2: sum(math.comb(10, size) for size in range(3, 8)) // 2, 3: 2100}
        self.assertEqual(count(verdict), sum(number * covers ** 30 for covers, number in ways.items()))


class Turns(unittest.TestCase):
    def test_two_generators_by_turns(self):
        for frame, rows, blocks in samples(83, 40, most=5):
            verdict = Verdict(make_table(frame, rows), plain_answers(frame, blocks, rows))
            alone = list(boards(verdict))
            self.assertEqual(alone, list(boards(verdict)))
            found = ([], [])
            for one, other in itertools.zip_longest(boards(verdict), itertools.islice(boards(verdict), 1, None)):
                found[0].append(one)
                found[1].append(other)
            self.assertEqual(found[0], alone)
            self.assertEqual(found[1][:-1], alone[1:])

    def test_generators_of_two_verdicts(self):
        one, other = Numbers().idle(5), Numbers().joined([3, 4], 2)
        found = list(zip(boards(one), boards(other)))
        self.assertEqual([pair[0] for pair in found], first_boards(one, len(found)))
        self.assertEqual([pair[1] for pair in found], first_boards(other, len(found)))

    def test_each_board_is_made_when_it_is_requested(self):
        walk = boards(Numbers().idle(40))
        self.assertIs(iter(walk), walk)
        self.assertIsInstance(next(walk), Board)


if __name__ == "__main__":
    unittest.main()
