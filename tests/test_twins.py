import copy
import itertools
import random
import unittest

from strayjoins.asking import at_once
from strayjoins.boards import Board
from strayjoins.counting import boards
from strayjoins.errors import InvalidWord
from strayjoins.frames import Frame
from strayjoins.legs import Driver, Listener
from strayjoins.spread import spread
from strayjoins.tables import Table
from strayjoins.twins import shows_twins, twins, weights
from strayjoins.verdicts import Verdict
from strayjoins.words import Word
from tests.bent import any_values, bends, deep
from tests.brute import Facts, driven_at, levels_of, make_table, plain_answer, plain_answers, samples, some_rows
from tests.values import NAMES, no_tuples_or_lists


def rank(rows, prime=1000003):
    """The rank of the rows over a field; for rows of 0 and 1 that are few it is that over the integers."""
    rows = [list(row) for row in rows]
    found = 0
    for column in range(len(rows[0]) if rows else 0):
        pivot = [at for at in range(found, len(rows)) if rows[at][column] % prime]
        if pivot:
            rows[found], rows[pivot[0]] = rows[pivot[0]], rows[found]
            inverse = pow(rows[found][column], -1, prime)
            for at in range(found + 1, len(rows)):
                factor = rows[at][column] * inverse
                rows[at] = [(one - factor * other) % prime for one, other in zip(rows[at], rows[found])]
            found += 1
    return found


class Weights(unittest.TestCase):
    def look_at(self, rows):
        kept = copy.deepcopy(rows)
        found = weights(rows)
        self.assertEqual(rows, kept)
        if rank(rows) == len(rows):
            self.assertIs(found, None)
            return
        self.assertIs(type(found), list)
        self.assertEqual(len(found), len(rows))
        self.assertTrue(all(type(weight) is int for weight in found))
        self.assertTrue(any(found))
        for column in zip(*rows):
            self.assertEqual(sum(weight * entry for weight, entry in zip(found, column)), 0)

    def test_small_rows(self):
        for many in range(4):
            for size in range(4):
                for entries in itertools.product((0, 1), repeat=many * size):
                    rows = [list(entries[at * size:(at + 1) * size]) for at in range(many)]
                    self.look_at(rows)
                    self.look_at(tuple(tuple(row) for row in rows))

    def test_some_rows(self):
        random_one = random.Random(121)
        for _ in range(200):
            many, size = random_one.randint(1, 14), random_one.randint(1, 16)
            share = random_one.random()
            self.look_at([[int(random_one.random() < share) for _ in range(size)] for _ in range(many)])

    def test_no_rows(self):
        self.assertIs(weights([]), None)
        self.assertIs(weights(()), None)
        self.assertIs(weights(rows=[]), None)

    def test_rows_without_entries(self):
        self.look_at([[]])
        self.look_at([[], [], ()])
        self.look_at(((),) * 60)

    def test_a_row_of_zeros(self):
        self.look_at([[0, 0, 0]])
        self.look_at([[1, 0], [0, 1], [0, 0]])
        self.look_at([[0, 0], [1, 0], [0, 1]])

    def test_equal_rows(self):
        self.look_at([[1, 0, 1], [1, 0, 1]])
        self.look_at([(1, 1, 0), [0, 1, 1], (1, 1, 0)])

    def test_independent_rows(self):
        self.assertIs(weights([[1, 1, 0], [0, 1, 1], [1, 0, 1]]), None)
        self.assertIs(weights([[1]]), None)
        units = [[int(at == place) for place in range(60)] for at in range(60)]
        self.assertIs(weights(units), None)

    def test_weights_above_one(self):
        # The last row is half the sum of the others.
        self.look_at([[1, 1, 0], [0, 1, 1], [1, 0, 1], [1, 1, 1]])

    def test_great_rows(self):
        random_one = random.Random(122)
        for size in (40, 59, 60, 180):
            rows = [[random_one.randint(0, 1) for _ in range(size)] for _ in range(60)]
            self.look_at(rows)
        rows = [[random_one.randint(0, 1) for _ in range(180)] for _ in range(59)]
        self.look_at(rows + [rows[17]])
        wide = [row + row + row for row in [[random_one.randint(0, 1) for _ in range(59)] for _ in range(60)]]
        self.look_at([row + [0, 1, 1] for row in wide])
        self.look_at([[1] * at + [0] * (180 - at) for at in range(60)])


def are_twins(facts, rows, thing):
    """What the document says of such a pair."""
    if type(thing) is not tuple or len(thing) != 2:
        return False
    if not all(isinstance(board, Board) and board.frame == facts.frame and board.blocks in facts.fitting for board in thing):
        return False
    more = [[plain_answer(facts.frame, board.blocks, levels) for levels in rows] for board in thing]
    if more[0] != more[1]:
        return False
    for name in facts.frame.drivers:
        read = {answer[name] for answer in facts.answers + more[0]}
        low = any(driven_at(facts.frame, levels, name) < facts.frame.top for levels in facts.rows + rows)
        if not (read == {facts.frame.top} and low) and thing[0][name] != thing[1][name]:
            return True
    return False


def cases(seed, many, most=6, rows=3):
    random_one = random.Random(seed)
    for at, (frame, levels, blocks) in enumerate(samples(seed, many, most, rows)):
        if at % 3 == 0 and not frame.rails and frame.names:
            levels, blocks = levels[:2] + [{name: 0 for name in frame.drivers}], (frame.members,)
        answers = plain_answers(frame, blocks, levels)
        further = some_rows(random_one, frame, 4)
        yield Facts(frame, levels, answers), Verdict(make_table(frame, levels), answers), further


class Twins(unittest.TestCase):
    def test_pairs(self):
        told = []
        for facts, verdict, rows in cases(123, 500):
            words = [Word.of(facts.frame, levels) for levels in rows]
            found = twins(verdict, *words)
            told.append(any(facts.frame.top * len(words) <= facts.spread(block) - 2 for block in facts.classes))
            if told[-1]:
                self.assertTrue(are_twins(facts, rows, found), (rows, found))
                self.assertIs(shows_twins(verdict, words, found), True)
                for board in found:
                    self.assertFalse(facts.behind(rows, board.blocks).settled())
            else:
                self.assertIs(found, None)
        self.assertGreater(sum(told), 60)
        self.assertGreater(len(told) - sum(told), 60)

    def test_no_words(self):
        for facts, verdict, _ in cases(124, 150):
            found = twins(verdict)
            if facts.settled():
                self.assertIs(found, None)
            else:
                self.assertTrue(are_twins(facts, [], found))

    def test_rest_words_count(self):
        for facts, verdict, _ in cases(125, 100):
            rest = Word.rest(facts.frame)
            for many in range(4):
                found = twins(verdict, *[rest] * many)
                if any(facts.frame.top * many <= facts.spread(block) - 2 for block in facts.classes):
                    self.assertTrue(are_twins(facts, [{}] * many, found))
                else:
                    self.assertIs(found, None)

    def look_at_frame(self, frame, rows, blocks, seed):
        table = make_table(frame, rows)
        verdict = Verdict(table, table.answers_of(Board.of(frame, blocks)))
        spreads = [len(spread(verdict, block[0])) for block in verdict.classes]
        random_one = random.Random(seed)
        most = (max(spreads) - 2) // frame.top
        for many in range(most + 1):
            for share in (0.1, 0.5, 1):
                words = [Word.of(frame, {name: random_one.randint(0, frame.top) for name in frame.drivers if random_one.random() < share})
                         for _ in range(many)]
                found = twins(verdict, *words)
                self.assertIs(shows_twins(verdict, words, found), True)
        self.assertIs(twins(verdict, *[Word.rest(frame)] * (most + 1)), None)

    def test_great_frames(self):
        for top in (1, 2, 3):
            drivers = [Driver(name) for name in NAMES[:36]]
            for others in ([], [Listener("y"), Listener("z")]):
                for power in (False, True):
                    frame = Frame(*drivers, *others, top=top, ground=True, power=power)
                    self.look_at_frame(frame, [], [], top)
                    self.look_at_frame(frame, [dict.fromkeys(NAMES[:20], top - 1)], [NAMES[:20]], top)
                    halves = [dict.fromkeys(names, top - 1) for names in (NAMES[:15], NAMES[15:30])]
                    self.look_at_frame(frame, halves, [NAMES[:30]], top)
                    if power:
                        self.look_at_frame(frame, [dict.fromkeys(NAMES[:9], 0)], [[*NAMES[:9], "power"]], top)

    def test_words_of_at_once_leave_no_twins(self):
        for facts, verdict, _ in cases(126, 150, most=5):
            words = at_once(verdict)
            self.assertIs(twins(verdict, *words), None)
            found = [Board.of(facts.frame, blocks) for blocks in facts.fitting[:12]]
            for pair in itertools.permutations(found, 2):
                self.assertIs(shows_twins(verdict, words, pair), False)

    def test_idle_drivers_with_a_listener(self):
        frame = Frame(Driver("a"), Listener("z"))
        verdict = Verdict(Table(frame), [{"a": 1, "z": 1}])
        self.assertEqual(set(map(str, twins(verdict))), {"-", "(a z)"})
        self.assertIs(twins(verdict, Word(frame, a=0)), None)
        self.assertIs(twins(verdict, Word(frame)), None)

    def test_one_driver(self):
        frame = Frame(Driver("a"), ground=True)
        self.assertIs(twins(Verdict(Table(frame), [{"a": 1}])), None)
        self.assertIs(twins(Verdict(Table(Frame()), [{}])), None)

    def test_equal_arguments_give_the_same(self):
        for facts, verdict, rows in cases(127, 60):
            words = [Word.of(facts.frame, levels) for levels in rows]
            again = Verdict(verdict.table, verdict.answers)
            self.assertEqual(twins(verdict, *words), twins(again, *words))

    def test_more_words_than_a_table_has(self):
        frame = Frame(*[Driver(name) for name in NAMES[:3]])
        verdict = Verdict(Table(frame), [dict.fromkeys(frame.names, 1)])
        words = [Word(frame)] * 70
        self.assertIs(twins(verdict, *words), None)
        self.assertIs(shows_twins(verdict, words, (Board(frame), Board(frame, NAMES[:2]))), True)
        self.assertIs(shows_twins(verdict, words + [Word.of(frame, {"aa": 0})], (Board(frame), Board(frame, NAMES[:2]))), False)

    def test_invalid_words(self):
        frame = Frame(Driver("a"), Driver("b"))
        verdict = Verdict(Table(frame), [{"a": 1, "b": 1}])
        others = [Word(Frame(Driver("a"))), Word(Frame(Driver("a"), Driver("b"), top=2)), Word(Frame(Driver("a"), Driver("b"), power=True))]
        for value in [value for value in any_values() if not isinstance(value, Word)] + others:
            for words in ([value], [Word(frame), value], [Word(frame)] * 5 + [value]):
                with self.assertRaises(InvalidWord) as caught:
                    twins(verdict, *words)
                self.assertIs(caught.exception.name, None)
                for form in (words, tuple(words)):
                    with self.assertRaises(InvalidWord) as caught:
                        shows_twins(verdict, form, None)
                    self.assertIs(caught.exception.name, None)
        for value in no_tuples_or_lists() + [Word(frame), {Word: 1}, "ab", None]:
            with self.assertRaises(InvalidWord) as caught:
                shows_twins(verdict, value, (Board(frame), Board(frame, ["a", "b"])))
            self.assertIs(caught.exception.name, None)

    def test_words_of_an_equal_frame(self):
        frame = Frame(Driver("a"), Driver("b"), Driver("c"))
        verdict = Verdict(Table(frame), [{"a": 1, "b": 1, "c": 1}])
        word = Word(Frame(Driver("c"), Driver("b"), Driver("a")), a=0)
        found = twins(verdict, word)
        self.assertIs(shows_twins(verdict, (word,), found), True)
        self.assertIs(shows_twins(verdict=verdict, words=[word], thing=found), True)


class Shown(unittest.TestCase):
    def look_at(self, facts, verdict, rows, thing):
        words = [Word.of(facts.frame, levels) for levels in rows]
        right = are_twins(facts, rows, thing)
        self.assertIs(shows_twins(verdict, words, thing), right, (rows, thing))
        self.assertIs(shows_twins(verdict, tuple(words), thing), right)
        return right

    def test_all_pairs_of_boards(self):
        told = []
        for facts, verdict, rows in cases(128, 60, most=4):
            found = list(itertools.islice(boards(verdict), 8))
            for pair in itertools.product(found, repeat=2):
                told.append(self.look_at(facts, verdict, rows, pair))
        self.assertTrue(any(told))
        self.assertFalse(all(told))

    def test_locked_behind_the_words(self):
        # Only locked drivers change their places: in power's block, or beside it.
        frame = Frame(Driver("a"), Driver("b"), Listener("z"), power=True)
        verdict = Verdict(Table(frame), [dict.fromkeys(frame.names, 1)])
        one, other = Board(frame, ["a", "power"]), Board(frame, ["a", "power", "z"])
        self.assertIs(shows_twins(verdict, [], (one, other)), True)
        self.assertIs(shows_twins(verdict, [Word(frame, b=0)], (one, other)), True)
        self.assertIs(shows_twins(verdict, [Word(frame, a=0)], (one, other)), False)
        self.assertIs(shows_twins(verdict, [Word(frame), Word(frame, a=0)], (one, other)), False)

    def test_locked_by_the_table(self):
        frame = Frame(Driver("a"), Driver("b"), Listener("z"), power=True)
        table = Table(frame, Word(frame, a=0))
        verdict = Verdict(table, [dict.fromkeys(frame.names, 1)] * 2)
        one, other = Board(frame, ["a", "power"]), Board(frame, ["a", "power", "z"])
        self.assertIs(shows_twins(verdict, [], (one, other)), False)
        self.assertIs(shows_twins(verdict, [], (one, other | Board(frame, ["b", "z"]))), True)

    def test_listeners_alone_are_no_difference(self):
        frame = Frame(Listener("x"), Listener("y"))
        verdict = Verdict(Table(frame), [{"x": 1, "y": 1}])
        self.assertIs(shows_twins(verdict, [], (Board(frame), Board(frame, ["x", "y"]))), False)

    def test_bent_pairs(self):
        taken = 0
        for facts, verdict, rows in cases(129, 150, most=5):
            thing = twins(verdict, *[Word.of(facts.frame, levels) for levels in rows])
            if thing is not None:
                taken += 1
                for bent in bends(thing, facts.frame.members):
                    self.look_at(facts, verdict, rows, bent)
        self.assertGreater(taken, 15)

    def test_any_values(self):
        frame = Frame(Driver("a"), Driver("b"))
        verdict = Verdict(Table(frame), [{"a": 1, "b": 1}])
        pair = (Board(frame), Board(frame, ["a", "b"]))
        self.assertIs(shows_twins(verdict, [], pair), True)
        self.assertIs(shows_twins(verdict, [], list(pair)), False)
        self.assertIs(shows_twins(verdict, [], pair[:1]), False)
        self.assertIs(shows_twins(verdict, [], pair + pair[:1]), False)
        self.assertIs(shows_twins(verdict, [], (pair[0], pair[0])), False)
        for value in any_values() + [deep(tuple, 100), deep(list, 100)]:
            for thing in (value, (value, value), (pair[0], value), (value, pair[1]), (pair, value)):
                self.assertIs(shows_twins(verdict, [], thing), False)


if __name__ == "__main__":
    unittest.main()
