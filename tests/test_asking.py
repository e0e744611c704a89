import itertools
import unittest

from strayjoins.asking import at_once, hardest, next_word
from strayjoins.boards import Board
from strayjoins.counting import boards
from strayjoins.errors import Settled
from strayjoins.frames import Frame
from strayjoins.legs import Driver, Listener
from strayjoins.spread import bounds, spread, stake
from strayjoins.tables import Table
from strayjoins.verdicts import Verdict
from strayjoins.words import Word
from tests.brute import Facts, all_rows, levels_of, make_table, plain_answers, samples
from tests.values import NAMES


def up(number, by):
    return (number + by - 1) // by


def behind(verdict, board, *words):
    """The verdict behind further words, if this board is there."""
    table = Table.of(verdict.table.frame, [*verdict.table.words[1:], *words])
    return Verdict(table, table.answers_of(board))


def rest_verdict(frame):
    return Verdict(Table(frame), [dict.fromkeys(frame.names, frame.top)])


class AgainstAllBoards(unittest.TestCase):
    def cases(self, seed, many, most=5, rows=3):
        for frame, levels, blocks in samples(seed, many, most, rows):
            answers = plain_answers(frame, blocks, levels)
            yield Facts(frame, levels, answers), Verdict(make_table(frame, levels), answers)
        # One class of many covers.
        for frame, levels, _ in samples(seed + 1, many // 2, most, 2):
            if not frame.rails and frame.names:
                levels = levels + [{name: 0 for name in frame.drivers}]
                answers = plain_answers(frame, (frame.members,), levels)
                yield Facts(frame, levels, answers), Verdict(make_table(frame, levels), answers)

    def test_words_that_settle_at_once(self):
        numbers = []
        for facts, verdict in self.cases(111, 200):
            words = at_once(verdict)
            self.assertIs(type(words), tuple)
            self.assertTrue(all(type(word) is Word and word.frame == facts.frame for word in words))
            most = max([up(facts.stake(block) - 1, facts.frame.top) for block in facts.classes], default=0)
            self.assertEqual(len(words), most)
            self.assertEqual(len(words), bounds(verdict).most_at_once)
            if facts.settled():
                self.assertEqual(words, ())
            rows = [levels_of(word) for word in words]
            for blocks in facts.fitting:
                self.assertTrue(facts.behind(rows, blocks).settled(), (rows, blocks))
            numbers.append(most)
        self.assertGreater(max(numbers), 2)

    def test_the_next_word(self):
        settled = 0
        for facts, verdict in self.cases(113, 200):
            if facts.settled():
                settled += 1
                with self.assertRaises(Settled):
                    next_word(verdict)
                continue
            word = next_word(verdict)
            self.assertIs(type(word), Word)
            self.assertEqual(word.frame, facts.frame)
            for blocks in facts.fitting:
                after = facts.behind([levels_of(word)], blocks)
                for block in after.classes:
                    before = facts.stake(facts.class_of(block[0]))
                    self.assertLessEqual(after.stake(block), up(before, facts.frame.top + 1))
        self.assertGreater(settled, 5)

    def test_the_hardest_board(self):
        for facts, verdict in self.cases(115, 120, most=4, rows=2):
            board = hardest(verdict)
            self.assertEqual(board.frame, facts.frame)
            self.assertIn(board.blocks, facts.fitting)
            for block in facts.classes:
                parts = tuple(part for part in board.blocks if part[0] in block)
                self.assertEqual(sorted(name for part in parts for name in part), list(block))
                self.assertEqual(len(parts), facts.spread(block))
                if block == facts.idle:
                    self.assertEqual(parts, facts.idle_parts())
            least = bounds(verdict).least_by_turns
            if least:
                # The answers of this board are known: who chooses one after the other may as well choose all at once.
                for rows in itertools.combinations_with_replacement(all_rows(facts.frame), least - 1):
                    self.assertFalse(facts.behind(rows, board.blocks).settled())
            else:
                self.assertTrue(facts.settled())

    def test_turn_by_turn_to_the_end(self):
        for facts, verdict in self.cases(117, 60):
            most = bounds(verdict).most_by_turns
            for blocks in facts.fitting[:20]:
                board = Board.of(facts.frame, blocks)
                now, asked = verdict, 0
                while not now.settled:
                    now, asked = behind(now, board, next_word(now)), asked + 1
                self.assertLessEqual(asked, most)
                with self.assertRaises(Settled):
                    next_word(now)

    def test_equal_arguments_give_the_same(self):
        for frame, rows, blocks in samples(118, 60):
            answers = plain_answers(frame, blocks, rows)
            one, other = [Verdict(make_table(frame, rows), answers) for _ in range(2)]
            self.assertEqual(at_once(one), at_once(verdict=other))
            self.assertEqual(hardest(one), hardest(verdict=other))
            if not one.settled:
                self.assertEqual(next_word(one), next_word(verdict=other))


class GreatFrames(unittest.TestCase):
    def frames(self):
        for top in (1, 2, 3):
            for legs in ([Driver(name) for name in NAMES[:40]], [Driver(name) for name in NAMES[:39]] + [Listener("z")]):
                for rails in ({}, {"power": True}, {"ground": True, "power": True}):
                    yield Frame(*legs, top=top, **rails)

    def some_boards(self, frame):
        names = frame.names
        yield Board(frame)
        yield Board(frame, names)
        yield Board(frame, names[::2], names[1::2])
        yield Board(frame, *[names[at:at + 5] for at in range(0, 40, 5)])
        if frame.power:
            yield Board(frame, [*names[:20], "power"])
            yield Board(frame, [*names, "power"])

    def test_at_once(self):
        for frame in self.frames():
            verdict = rest_verdict(frame)
            words = at_once(verdict)
            others = bool(frame.listeners) or frame.power
            self.assertEqual(len(words), up(len(frame.drivers) - 1 + others, frame.top))
            for board in self.some_boards(frame):
                self.assertTrue(behind(verdict, board, *words).settled)

    def test_one_after_the_other(self):
        for frame in self.frames():
            verdict = rest_verdict(frame)
            for board in self.some_boards(frame):
                now, asked = verdict, 0
                while not now.settled:
                    stakes = {name: len(stake(now, name)[1]) for name in frame.members}
                    now, asked = behind(now, board, next_word(now)), asked + 1
                    for name in frame.members:
                        self.assertLessEqual(len(stake(now, name)[1]), up(stakes[name], frame.top + 1))
                self.assertLessEqual(asked, bounds(verdict).most_by_turns)

    def test_hardest(self):
        for frame in self.frames():
            verdict = rest_verdict(frame)
            board = hardest(verdict)
            parts = [part for block in verdict.classes for part in spread(verdict, block[0])]
            self.assertEqual(board, Board.of(frame, parts))

    def test_several_classes_in_the_same_words(self):
        frame = Frame(*[Driver(name) for name in NAMES[:30]], power=True)
        groups = [NAMES[:8], NAMES[8:20], NAMES[20:25]]
        board = Board(frame, *groups)
        verdict = behind(rest_verdict(frame), board, *[Word.of(frame, dict.fromkeys(group, 0)) for group in groups])
        words = at_once(verdict)
        self.assertEqual(len(words), 11)
        for fitting in itertools.islice(boards(verdict), 60):
            self.assertTrue(behind(verdict, fitting, *words).settled)
        self.assertTrue(behind(verdict, board, *words).settled)
        self.assertTrue(behind(verdict, hardest(verdict), *words).settled)


class Examples(unittest.TestCase):
    def test_like_answers(self):
        frame = Frame(*[Driver(name) for name in "abcd"])
        table = Table(frame, Word(frame, a=0, c=0), Word(frame, b=0, c=0))
        verdict = Verdict(table, table.answers_of(Board(frame, ["a", "b"])))
        self.assertEqual(len(at_once(verdict)), 1)
        self.assertEqual(hardest(verdict), Board(frame, ["a", "b"]))
        word = next_word(verdict)
        for board in (Board(frame, ["a", "b"]), Board(frame, ["a", "b", "c"])):
            self.assertTrue(behind(verdict, board, *at_once(verdict)).settled)
            self.assertTrue(behind(verdict, board, word).settled)

    def test_two_drivers(self):
        frame = Frame(Driver("a"), Driver("b"))
        verdict = rest_verdict(frame)
        self.assertIn(next_word(verdict), (Word(frame, a=0), Word(frame, b=0)))
        self.assertIn(at_once(verdict), ((Word(frame, a=0),), (Word(frame, b=0),)))

    def test_drivers_with_names_of_parameters(self):
        frame = Frame(*[Driver(name) for name in ("cls", "frame", "levels", "self")])
        verdict = rest_verdict(frame)
        for board in (Board(frame), Board(frame, ["cls", "frame", "self"])):
            self.assertTrue(behind(verdict, board, *at_once(verdict)).settled)
            self.assertFalse(behind(verdict, board, next_word(verdict)).settled)

    def test_settled(self):
        for frame in (Frame(), Frame(Driver("a")), Frame(Listener("a"), Listener("b")), Frame(ground=True, power=True), Frame(Listener("a"), power=True)):
            verdict = rest_verdict(frame)
            self.assertEqual(at_once(verdict), ())
            with self.assertRaises(Settled):
                next_word(verdict)
            self.assertTrue(verdict.fits(hardest(verdict)))

    def test_listeners_and_power_stay_one_part(self):
        frame = Frame(Driver("a"), Listener("b"), Listener("c"), power=True)
        verdict = rest_verdict(frame)
        self.assertEqual(hardest(verdict), Board(frame, ["b", "c", "power"]))
        self.assertEqual(next_word(verdict), Word(frame, a=0))
        self.assertEqual(at_once(verdict), (Word(frame, a=0),))


if __name__ == "__main__":
    unittest.main()
