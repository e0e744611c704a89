import itertools
import random
import unittest

from strayjoins.boards import Board
from strayjoins.errors import InvalidAnswer, NoBoard, NoLeg, TooMany
from strayjoins.frames import Frame
from strayjoins.legs import Driver, Listener
from strayjoins.readings import Readings
from strayjoins.tables import Table
from strayjoins.verdicts import Verdict
from strayjoins.words import Word
from tests.brute import Facts, joins, make_table, plain_answers, samples, shows_tree
from tests.values import NAMES, no_names


def numbered_names(many):
    return tuple(NAMES[:many])


def joined(frame, rows, *names):
    """The verdict of a board on which these are joined, all if none is told."""
    table = make_table(frame, rows)
    blocks = [list(names or frame.members)]
    return Verdict(table, table.answers_of(Board.of(frame, blocks)))


def low(names):
    return {name: 0 for name in names}


def rows_of(names, sets):
    """The words of a class in which each name is a maker of the words in its set."""
    words = sorted({word for one in sets for word in one})
    return [low(name for name, one in zip(names, sets) if word in one) for word in words]


class AgainstAllBoards(unittest.TestCase):
    """Small frames, held against all boards that give the same answers."""

    def cases(self, seed, many, most=6, rows=4):
        for frame, rows, blocks in samples(seed, many, most, rows):
            answers = plain_answers(frame, blocks, rows)
            yield frame, Facts(frame, rows, answers), Verdict(make_table(frame, rows), answers)

    def look_at_pairs(self, frame, facts, verdict):
        pairs = []
        for one, other in itertools.product(frame.members, repeat=2):
            self.assertEqual(verdict.says(one, other), facts.says(one, other), (one, other))
            if one < other and facts.says(one, other) == "open":
                pairs.append((one, other))
        self.assertEqual(list(verdict.open_pairs()), pairs)
        self.assertEqual(verdict.bundles, facts.bundles())
        for name in frame.members:
            self.assertEqual(verdict.bundle(name), [bundle for bundle in facts.bundles() if name in bundle][0])
        self.assertIs(verdict.settled, facts.settled())

    def look_at_board(self, frame, facts, verdict):
        fixed = tuple(name for name in facts.idle if name == "power" or name in facts.locked)
        blocks = [block for block in facts.classes if block != facts.idle] + ([fixed] if fixed else [])
        blocks += [(name,) for name in facts.idle if name not in fixed]
        self.assertEqual(verdict.board.blocks, tuple(sorted(blocks)))
        self.assertEqual(verdict.board.frame, frame)
        self.assertIn(verdict.board.blocks, facts.fitting)

    def look_at_parted(self, frame, facts, verdict):
        for many in range(len(frame.members) + 1):
            for names in itertools.combinations(frame.members, many):
                board = verdict.parted(*names[::-1])
                if facts.can_be_apart(names):
                    self.assertIn(board.blocks, facts.fitting)
                    self.assertEqual(board.frame, frame)
                    self.assertFalse(any(board.joins(*pair) for pair in itertools.combinations(names, 2)), names)
                else:
                    self.assertIs(board, None)

    def look_at_paper(self, frame, facts, verdict):
        for one, other in itertools.product(frame.members, repeat=2):
            paper = verdict.paper(one, other)
            self.assertIs(type(paper), tuple)
            said = facts.says(one, other)
            if one == other:
                self.assertEqual(paper, ("same",))
            elif said == "apart":
                differ = [index for index in range(len(facts.rows)) if facts.levels[one][index] != facts.levels[other][index]]
                self.assertEqual(paper, ("apart", differ[0]))
            elif said == "open":
                self.assertEqual((paper[0], len(paper)), ("open", 3))
                self.assertIn(paper[1].blocks, facts.fitting)
                self.assertIn(paper[2].blocks, facts.fitting)
                self.assertEqual([board.joins(one, other) for board in paper[1:]], [True, False])
            elif one in facts.idle:
                first = [[index for index, row in enumerate(facts.rows) if row.get(name, frame.top) < frame.top] for name in (one, other)]
                self.assertEqual(paper, ("locked", *[found[0] if found else None for found in first]))
            else:
                self.assertEqual((paper[0], len(paper)), ("together", 2))
                self.assertTrue(facts.shows_cases([one, other], paper[1]))

    def look_at_cases(self, frame, facts, verdict):
        for many in range(4):
            for names in itertools.permutations(frame.members, many):
                tree = verdict.cases(*names)
                one_class = many >= 2 and set(names) <= set(facts.class_of(names[0])) and names[0] not in facts.idle
                if one_class and not facts.can_be_apart(names):
                    self.assertTrue(facts.shows_cases(names, tree), (names, tree))
                else:
                    self.assertIs(tree, None)

    def test_pairs_bundles_and_boards(self):
        for case in self.cases(41, 400):
            self.look_at_pairs(*case)
            self.look_at_board(*case)

    def test_parted(self):
        for case in self.cases(42, 200):
            self.look_at_parted(*case)

    def test_papers(self):
        for case in self.cases(43, 250):
            self.look_at_paper(*case)

    def test_cases(self):
        for case in self.cases(44, 200):
            self.look_at_cases(*case)

    def test_one_class_of_six_or_seven(self):
        random_one = random.Random(45)
        for number in range(60):
            names = "abchxyz"[:6 + number // 50]
            frame = Frame(*[Driver(name) for name in names])
            rows = [low(random_one.sample(names, random_one.randint(2, 4))) for _ in range(random_one.randint(2, 8))]
            answers = plain_answers(frame, (tuple(names),), rows)
            case = (frame, Facts(frame, rows, answers), Verdict(make_table(frame, rows), answers))
            self.look_at_pairs(*case)
            self.look_at_parted(*case)
            self.look_at_paper(*case)
            self.look_at_cases(*case)


class TheExample(unittest.TestCase):
    """The point [21], and what stands under strayjoins/verdictcheck.py."""

    def make(self, names, *blocks):
        frame = Frame(*[Driver(name) for name in names])
        rest = {"e": 0} if "e" in names else {}
        table = make_table(frame, [{"a": 0, "c": 0} | rest, {"b": 0, "c": 0} | rest])
        return Verdict(table, table.answers_of(Board.of(frame, blocks)))

    def test_without_e(self):
        verdict = self.make("abcd", ["a", "b"])
        self.assertEqual(verdict.answers, [dict.fromkeys("abcd", 1)] + [{"a": 0, "b": 0, "c": 0, "d": 1}] * 2)
        self.assertEqual(verdict.classes, (("a", "b", "c"), ("d",)))
        self.assertEqual(verdict.bundles, (("a", "b"), ("c",), ("d",)))
        self.assertEqual([verdict.makers("a", 1), verdict.makers("a", 2)], [("a", "c"), ("b", "c")])
        said = {pair: verdict.says(*pair) for pair in itertools.combinations("abcd", 2)}
        self.assertEqual(said, {("a", "b"): "together", ("a", "c"): "open", ("b", "c"): "open",
                                ("a", "d"): "apart", ("b", "d"): "apart", ("c", "d"): "apart"})
        self.assertIs(verdict.settled, False)
        self.assertEqual(verdict.idle, ("d",))
        self.assertEqual(verdict.paper("a", "b"), ("together", ("leg", "c", (("word", 1), ("word", 2)))))
        self.assertEqual(verdict.paper("b", "a"), ("together", ("leg", "c", (("word", 2), ("word", 1)))))
        self.assertEqual(str(verdict.parted("a", "c", "d")), "(a b)")
        self.assertEqual(str(verdict.board), "(a b c)")
        self.assertEqual(list(verdict.open_pairs()), [("a", "c"), ("b", "c")])

    def test_with_e(self):
        verdict = self.make("abcde", ["a", "b", "e"])
        self.assertEqual(verdict.classes, (("a", "b", "c", "e"), ("d",)))
        self.assertEqual(verdict.says("a", "b"), "open")
        self.assertEqual(verdict.bundles, (("a",), ("b",), ("c",), ("d",), ("e",)))
        self.assertEqual(str(verdict.parted("a", "c", "e")), "(a b)")
        self.assertEqual(str(verdict.parted("b", "c", "e")), "(a b)")
        self.assertIs(verdict.parted("a", "b", "c", "e"), None)
        self.assertIs(verdict.parted("a", "b", "c"), None)
        self.assertIs(verdict.settled, False)


class WhatIsAsked(unittest.TestCase):
    def setUp(self):
        frame = Frame(Driver("a"), Driver("b"), Driver("c"), Listener("d"), Driver("m"), ground=True, power=True)
        self.frame = frame
        self.table = Table(frame, Word(frame, a=0, b=0), Word(frame, c=0))
        self.answers = self.table.answers_of(Board(frame, ["a", "b"], ["c", "power"]))
        self.verdict = Verdict(self.table, self.answers)

    def test_is_a_readings(self):
        self.assertTrue(issubclass(Verdict, Readings))
        self.assertEqual(self.verdict.classes, (("a", "b"), ("c", "d", "m", "power"), ("ground",)))
        self.assertEqual((self.verdict.locked, self.verdict.mute), (("c",), ("m",)))
        self.assertEqual(Verdict(table=self.table, answers=tuple(self.answers)).table, self.table)

    def test_errors_of_readings_come_first(self):
        for answers in (None, self.answers[:1]):
            self.assertRaises(InvalidAnswer, Verdict, self.table, answers)
        self.answers[2]["m"] = 0
        with self.assertRaises(NoBoard) as caught:
            Verdict(self.table, self.answers)
        self.assertEqual((caught.exception.index, caught.exception.name), (2, "m"))

    def test_no_board_ahead_of_too_many(self):
        names = numbered_names(12)
        frame = Frame(*[Driver(name) for name in names], Driver("z"))
        table = make_table(frame, rows_of(names, [(at, (at + 1) % 12) for at in range(12)]))
        answers = table.answers_of(Board(frame, names))
        self.assertRaises(TooMany, Verdict, table, answers)
        answers[5]["z"] = 0
        self.assertRaises(NoBoard, Verdict, table, answers)
        answers[7]["z"] = True
        self.assertRaises(InvalidAnswer, Verdict, table, answers)

    def test_idle(self):
        verdict = self.verdict
        self.assertEqual(verdict.says("c", "power"), "together")
        self.assertEqual([verdict.says(*pair) for pair in (("c", "d"), ("m", "power"), ("d", "m"))], ["open"] * 3)
        self.assertEqual(verdict.bundle("c"), ("c", "power"))
        self.assertEqual(verdict.paper("c", "power"), ("locked", 2, None))
        self.assertEqual(verdict.paper("power", "c"), ("locked", None, 2))
        self.assertIs(verdict.parted("c", "power"), None)
        self.assertEqual(str(verdict.parted("c", "d", "m", "a", "b", "ground")), "(c power)")
        self.assertIs(verdict.cases("c", "power"), None)
        self.assertIs(verdict.settled, False)

    def test_what_is_named_twice(self):
        verdict = self.verdict
        for name in self.frame.members:
            self.assertEqual(verdict.says(name, name), "together")
            self.assertEqual(verdict.paper(name, name), ("same",))
            self.assertIs(verdict.parted(name, name), None)
            self.assertIs(verdict.parted(name, "m", "d", name), None)
            self.assertIs(verdict.cases(name, name), None)
        self.assertIs(verdict.cases("a", "b", "a"), None)

    def test_none_and_one(self):
        for board in (self.verdict.parted(), self.verdict.parted("a"), self.verdict.parted("power")):
            self.assertTrue(self.verdict.fits(board))
        self.assertIs(self.verdict.cases(), None)
        self.assertIs(self.verdict.cases("a"), None)

    def test_different_classes(self):
        self.assertIs(self.verdict.cases("a", "ground"), None)
        self.assertIs(self.verdict.cases("a", "b", "c"), None)
        self.assertEqual(self.verdict.paper("a", "ground"), ("apart", 0))
        self.assertEqual(self.verdict.paper("a", "d"), ("apart", 1))

    def test_no_leg(self):
        verdict = self.verdict
        for value in no_names() + ["e", "ab"]:
            if not isinstance(value, str) or value not in self.frame.members:
                calls = [
                    ((value, "a"), value), (("a", value), value), ((value, "zz"), value), (("zz", value), "zz"), ((value, value), value),
                ]
                for names, first in calls:
                    for call in (verdict.says, verdict.paper, verdict.parted, verdict.cases):
                        with self.assertRaises(NoLeg) as caught:
                            call(*names)
                        self.assertIs(caught.exception.name, first)
                with self.assertRaises(NoLeg) as caught:
                    verdict.bundle(value)
                self.assertIs(caught.exception.name, value)
                for call in (verdict.parted, verdict.cases):
                    with self.assertRaises(NoLeg) as caught:
                        call("a", "a", "b", value)
                    self.assertIs(caught.exception.name, value)

    def test_cases_of_too_many_names(self):
        for names in (("a", "b", "c", "d"), ("a", "a", "a", "a"), ("a", "b", "c", "d", "m")):
            with self.assertRaises(TooMany) as caught:
                self.verdict.cases(*names)
            self.assertEqual(caught.exception.most, 3)
        with self.assertRaises(NoLeg) as caught:
            self.verdict.cases("a", "b", "c", "d", "e", 1)
        self.assertEqual(caught.exception.name, "e")

    def test_open_pairs_by_turns(self):
        pairs = [("a", "b"), ("c", "d"), ("c", "m"), ("d", "m"), ("d", "power"), ("m", "power")]
        one, other = self.verdict.open_pairs(), self.verdict.open_pairs()
        self.assertEqual([next(one), next(other), next(one)], [pairs[0], pairs[0], pairs[1]])
        self.assertEqual(list(other), pairs[1:])
        self.assertEqual(list(one), pairs[2:])

    def test_by_name(self):
        self.assertEqual(self.verdict.says(one="a", other="b"), "open")
        self.assertEqual(self.verdict.paper(one="a", other="m"), ("apart", 1))
        self.assertEqual(self.verdict.bundle(name="a"), ("a",))

    def test_nothing_changes(self):
        before = (self.verdict.bundles, self.verdict.board, self.verdict.answers)
        self.verdict.answers[0].clear()
        self.verdict.parted("a", "b")
        self.assertEqual((self.verdict.bundles, self.verdict.board, self.verdict.answers), before)


class SmallFrames(unittest.TestCase):
    def test_without_elements(self):
        verdict = Verdict(Table(Frame()), [{}])
        self.assertEqual((verdict.bundles, verdict.settled, verdict.board, verdict.parted()), ((), True, Board(Frame()), Board(Frame())))
        self.assertEqual(list(verdict.open_pairs()), [])

    def test_settled_in_the_idle_class(self):
        a, b, c, d = Driver("a"), Driver("b"), Listener("c"), Listener("d")
        told = (
            (Frame(a), True), (Frame(a, b), False), (Frame(c), True), (Frame(c, d), True), (Frame(c, d, power=True), True),
            (Frame(a, c), False), (Frame(a, power=True), False), (Frame(power=True, ground=True), True), (Frame(ground=True), True),
        )
        for frame, settled in told:
            table = Table(frame)
            self.assertIs(Verdict(table, table.answers_of(Board(frame))).settled, settled, frame.members)
        frame = Frame(a, b, c, power=True)
        table = Table(frame, Word(frame, a=0, b=0))
        verdict = Verdict(table, table.answers_of(Board(frame, ["a", "b", "power"])))
        self.assertIs(verdict.settled, True)
        self.assertEqual(list(verdict.open_pairs()), [("a", "c"), ("b", "c"), ("c", "power")])

    def test_settled_with_a_class_that_is_not(self):
        frame = Frame(Driver("a"), Driver("b"))
        for rows, settled in (([{"a": 0, "b": 0}], False), ([{"a": 0}], True), ([{"a": 0, "b": 0}, {"b": 0}], True)):
            self.assertIs(joined(frame, rows).settled, settled)

    def test_ground(self):
        frame = Frame(Driver("a"), Driver("b"), Driver("h"), ground=True)
        table = Table(frame, Word(frame, a=0, b=0))
        verdict = Verdict(table, table.answers_of(Board(frame, ["a", "b", "ground"])))
        self.assertEqual(verdict.bundles, (("a", "b", "ground"), ("h",)))
        for names in itertools.permutations(("a", "b", "ground"), 2):
            self.assertTrue(shows_tree(("a", "b", "ground"), {0: ("ground",), 1: ("a", "b", "ground")},
                                       [(name,) for name in names], verdict.paper(*names)[1]))
        self.assertIs(verdict.settled, True)
        for names in (("a", "a"), ("ground", "a", "ground"), ("h", "h"), ("a", "h"), ("a",)):
            self.assertIs(verdict.cases(*names), None)


class Sizes(unittest.TestCase):
    """Classes as large as they are let, and larger ones."""

    def make(self, sets, top=1, extra=()):
        """The verdict of a single class with a driver for each set of words, and further legs."""
        names = numbered_names(len(sets))
        frame = Frame(*[Driver(name) for name in names], *extra, top=top)
        return joined(frame, rows_of(names, sets))

    def too_many(self, sets, extra=()):
        with self.assertRaises(TooMany) as caught:
            self.make(sets, extra=extra)
        self.assertEqual(caught.exception.most, 1024)

    def ring(self, many):
        """No two alike, each word with two makers."""
        return [(at, (at + 1) % many) for at in range(many)]

    def test_no_two_alike(self):
        self.assertEqual(Verdict.MOST, 1024)
        for many in (3, 5, 9):
            self.assertEqual(self.make(self.ring(many)).bundles, (numbered_names(many),))
        for many in (4, 8, 10):
            names = numbered_names(many)
            verdict = self.make(self.ring(many))
            self.assertEqual(verdict.bundles, (names[::2], names[1::2]))
            self.assertEqual(verdict.parted(names[0], names[1]).blocks, (names[::2], names[1::2]))
        for many in (11, 12, 40):
            self.too_many(self.ring(many))

    def test_elements_that_make_nothing_do_not_count(self):
        extra = [Listener("x"), Listener("y"), Driver("z")]
        verdict = self.make(self.ring(10), extra=extra)
        names = numbered_names(10)
        self.assertEqual(verdict.bundles, (names[::2], names[1::2], ("x",), ("y",), ("z",)))
        self.too_many(self.ring(11), extra)

    def test_alike_makers(self):
        for many in (2, 31, 40):
            verdict = self.make([(1,)] * many)
            self.assertEqual(verdict.bundles, tuple((name,) for name in numbered_names(many)))
            self.assertEqual(len(verdict.parted(*numbered_names(many))), many)
            self.assertEqual(len(list(verdict.open_pairs())), many * (many - 1) // 2)

    def test_kinds_of_alike_makers(self):
        for counts in ((7, 7, 15), (3, 3, 3, 15), (15, 7, 7), (1,) * 10, (31, 1, 1, 1, 1, 1), (2, 7, 30)):
            product = 1
            sets = []
            for kind, count in enumerate(counts):
                product *= count + 1
                sets += [(kind, (kind + 1) % len(counts))] * count
            if product <= 1024:
                self.assertEqual(len(self.make(sets).classes), 1)
            else:
                self.too_many(sets)
        # 8 * 8 * 16 is 1024; one more maker of any kind is too many.
        for more in range(3):
            self.too_many([(0, 1)] * 7 + [(1, 2)] * 7 + [(2, 0)] * 15 + [(more, (more + 1) % 3)])
        self.too_many([(0, 1)] * 4 + [(1, 2)] * 4 + [(2, 0)] * 4 + [(0, 3)] * 8)

    def test_a_word_with_a_single_maker(self):
        names = numbered_names(40)
        verdict = self.make(self.ring(39) + [(39,)])
        self.assertEqual(verdict.bundles, (names,))
        self.assertIs(verdict.parted(names[0], names[1]), None)
        self.assertIs(verdict.parted(*names), None)
        for pair in ((names[0], names[39]), (names[39], names[0]), (names[0], names[1]), names[:3]):
            makers = {index: verdict.makers(names[0], index) for index in verdict.marked(names[0])}
            self.assertTrue(shows_tree(names, makers, [(name,) for name in pair], verdict.cases(*pair)))

    def test_a_single_maker_at_another_level(self):
        names = numbered_names(12)
        frame = Frame(*[Driver(name) for name in names], top=2)
        rows = rows_of(names, self.ring(12))
        with self.assertRaises(TooMany):
            joined(frame, rows)
        self.assertEqual(joined(frame, rows + [{names[0]: 1, names[1]: 2}]).bundles, (names,))
        with self.assertRaises(TooMany):
            joined(frame, rows + [{names[0]: 1, names[1]: 1}])

    def test_each_class_is_looked_at(self):
        names = numbered_names(30)
        sets = self.ring(10) + [(at + 10, (at + 1) % 10 + 10) for at in range(10)] + [(at + 20, (at + 1) % 10 + 20) for at in range(10)]
        frame = Frame(*[Driver(name) for name in names])
        table = make_table(frame, rows_of(names, sets))
        verdict = Verdict(table, table.answers_of(Board(frame, names[:10], names[10:20], names[20:])))
        self.assertEqual([len(bundle) for bundle in verdict.bundles], [5] * 6)
        larger = make_table(frame, rows_of(names[:10] + names[12:23], self.ring(10) + [(at + 10, (at + 1) % 11 + 10) for at in range(11)]))
        self.assertRaises(TooMany, Verdict, larger, larger.answers_of(Board(frame, names[:10], names[12:23])))

    def test_idle_classes_have_no_bound(self):
        names = numbered_names(40)
        frame = Frame(*[Driver(name) for name in names], power=True)
        table = make_table(frame, rows_of(names[:20], self.ring(20)))
        verdict = Verdict(table, table.answers_of(Board(frame, [*names[:20], "power"])))
        self.assertEqual(verdict.bundle("power"), (*names[:20], "power"))
        self.assertEqual(verdict.paper(names[3], names[19]), ("locked", 4, 1))
        self.assertEqual(len(verdict.bundles), 21)

    def test_trees_of_large_classes(self):
        random_one = random.Random(46)
        shown = 0
        for shape in ([1] * 10, [2] * 6, [2, 2, 2, 1, 1, 1, 1], [3] * 5, [7, 7, 1, 1], [9, 9, 9]):
            for _ in range(6):
                kinds = range(len(shape))
                words = [random_one.sample(kinds, random_one.randint(2, max(2, len(shape) // 2))) for _ in range(random_one.randint(8, 40))]
                sets = [tuple(at for at, word in enumerate(words) if kind in word) for kind in kinds for _ in range(shape[kind])]
                sets = [one for one in sets if one]
                try:
                    verdict = self.make(sets, extra=[Listener("x"), Listener("y"), Listener("z")])
                except TooMany:
                    continue
                shown += self.look_at_trees(verdict, random_one)
        self.assertGreater(shown, 50)

    def look_at_trees(self, verdict, random_one):
        """Holds trees and boards of some names against each other; the number of trees."""
        block = verdict.class_of("x")
        makers = {index: verdict.makers("x", index) for index in verdict.marked("x")}
        shown = 0
        for many in (2, 2, 2, 3, 3):
            names = random_one.sample(block, many)
            board, tree = verdict.parted(*names), verdict.cases(*names)
            self.assertIs(board is None, tree is not None)
            if tree is not None:
                self.assertTrue(shows_tree(block, makers, [(name,) for name in names], tree))
                shown += 1
            else:
                self.assertTrue(verdict.fits(board))
                self.assertFalse(any(board.joins(*pair) for pair in itertools.combinations(names, 2)))
        return shown


class LargeFrames(unittest.TestCase):
    def make(self, top=1, power=False):
        return Frame(*[Driver(name) for name in numbered_names(40)], top=top, power=power, ground=power)

    def test_all_at_rest(self):
        frame = self.make(power=True)
        names = numbered_names(40)
        verdict = Verdict(Table(frame), Table(frame).answers_of(Board(frame)))
        self.assertEqual(verdict.bundles, tuple((name,) for name in frame.members))
        self.assertEqual((verdict.mute, verdict.locked), (names, ()))
        self.assertEqual(len(list(verdict.open_pairs())), 41 * 40 // 2)
        self.assertEqual(verdict.parted(*frame.members), Board(frame))
        self.assertEqual(verdict.says("ground", "power"), "apart")

    def test_all_joined(self):
        names = numbered_names(40)
        verdict = joined(self.make(top=3), [{name: at % 3} for at, name in enumerate(names)] + [low(names)])
        self.assertEqual(verdict.bundles, (names,))
        self.assertIs(verdict.settled, True)
        self.assertEqual(len(verdict.board), 1)
        self.assertEqual(verdict.paper(names[0], names[39])[0], "together")

    def test_all_joined_and_all_low_at_once(self):
        names = numbered_names(40)
        verdict = joined(self.make(), [low(names)])
        self.assertEqual(len(verdict.bundles), 40)
        self.assertEqual(verdict.parted(*names), Board(self.make()))
        self.assertEqual(str(verdict.board), "(" + " ".join(names) + ")")

    def test_sixty_words_and_many_blocks(self):
        random_one = random.Random(47)
        frame = self.make(top=3, power=True)
        names = numbered_names(40)
        blocks = [names[at:at + 4] for at in range(0, 32, 4)] + [(*names[32:34], "ground"), (*names[34:36], "power")]
        rows = [{name: random_one.randint(0, 3) for name in random_one.sample(names, 15)} for _ in range(59)]
        table = make_table(frame, rows)
        board = Board(frame, *blocks)
        verdict = Verdict(table, table.answers_of(board))
        self.assertTrue(verdict.fits(board) and verdict.fits(verdict.board))
        for one, other in itertools.combinations(frame.members, 2):
            self.assertIn(verdict.says(one, other), ("together", "open") if joins(blocks, one, other) else ("apart", "open"))
        self.assertEqual(verdict.says(names[34], "power"), "together")
        self.assertEqual(verdict.says(names[32], "ground"), "together")

    def test_many_sides(self):
        names = numbered_names(27)
        frame = Frame(*[Driver(name) for name in names], *[Listener("z" + letter) for letter in "abcdefghijklm"])
        kinds = [names[:9], names[9:18], names[18:]]
        verdict = joined(frame, [low(kinds[0] + kinds[1]), low(kinds[1] + kinds[2]), low(kinds[2] + kinds[0])])
        board = verdict.parted(*frame.listeners)
        self.assertTrue(verdict.fits(board))
        self.assertEqual(len({board[name] for name in frame.listeners}), 13)
        self.assertIs(verdict.parted(*frame.listeners, names[0]), None)
        self.assertIsNot(verdict.parted(*frame.listeners[1:], names[0]), None)


if __name__ == "__main__":
    unittest.main()
