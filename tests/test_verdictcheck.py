import itertools
import random
import unittest

from strayjoins.boards import Board
from strayjoins.errors import InvalidAnswer, NoBoard, NoLeg, TooMany
from strayjoins.frames import Frame
from strayjoins.legs import Driver, Listener
from strayjoins.tables import Table
from strayjoins.verdictcheck import shows, shows_cases
from strayjoins.verdicts import Verdict
from strayjoins.words import Word
from tests.bent import any_values, bends, deep
from tests.brute import Facts, driven_at, joins, make_table, plain_answers, samples, shows_tree
from tests.values import NAMES, no_names


def is_index(facts, value):
    return type(value) is int and 0 <= value < len(facts.rows)


def fits(facts, value):
    return isinstance(value, Board) and value.frame == facts.frame and value.blocks in facts.fitting


def is_lock(facts, name, index):
    if name == "power":
        return index is None
    return name in facts.locked and is_index(facts, index) and driven_at(facts.frame, facts.rows[index], name) < facts.frame.top


def is_certificate(facts, one, other, thing):
    """What the document says of certificates."""
    if type(thing) is not tuple or not thing or not isinstance(thing[0], str):
        return False
    if one == other:
        return thing == ("same",)
    if thing[0] == "apart" and len(thing) == 2:
        return is_index(facts, thing[1]) and facts.levels[one][thing[1]] != facts.levels[other][thing[1]]
    if thing[0] == "open" and len(thing) == 3 and fits(facts, thing[1]) and fits(facts, thing[2]):
        return joins(thing[1].blocks, one, other) and not joins(thing[2].blocks, one, other)
    if thing[0] == "together" and len(thing) == 2:
        block = facts.class_of(one)
        return other in block and block != facts.idle and shows_tree(block, facts.makers(one), [(one,), (other,)], thing[1])
    if thing[0] == "locked" and len(thing) == 3:
        return is_lock(facts, one, thing[1]) and is_lock(facts, other, thing[2])
    return False


def cases(seed, many, most=5, rows=3):
    for frame, rows, blocks in samples(seed, many, most, rows):
        answers = plain_answers(frame, blocks, rows)
        yield Facts(frame, rows, answers), make_table(frame, rows), answers


class Papers(unittest.TestCase):
    def test_papers_are_taken(self):
        kinds = set()
        for facts, table, answers in cases(61, 150):
            verdict = Verdict(table, answers)
            for one, other in itertools.product(facts.frame.members, repeat=2):
                paper = verdict.paper(one, other)
                self.assertIs(shows(table, answers, one, other, paper), True)
                self.assertIs(shows(thing=paper, other=other, one=one, answers=tuple(answers), table=table), True)
                kinds.add(paper[0])
        self.assertEqual(kinds, {"same", "apart", "open", "together", "locked"})

    def test_papers_of_other_pairs(self):
        for facts, table, answers in cases(62, 60, most=4):
            verdict = Verdict(table, answers)
            pairs = list(itertools.product(facts.frame.members, repeat=2))
            papers = [verdict.paper(*pair) for pair in pairs]
            for (one, other), paper in itertools.product(pairs, papers):
                self.assertIs(shows(table, answers, one, other, paper), is_certificate(facts, one, other, paper), (one, other, paper))

    def test_papers_of_other_tables(self):
        taken = []
        earlier = []
        for facts, table, answers in cases(63, 300, most=4):
            members = facts.frame.members
            for paper in earlier[-40:]:
                for one, other in itertools.product(members, repeat=2):
                    taken.append(shows(table, answers, one, other, paper))
                    self.assertIs(taken[-1], is_certificate(facts, one, other, paper))
            verdict = Verdict(table, answers)
            earlier += [verdict.paper(one, other) for one, other in itertools.combinations(members, 2)]
        self.assertTrue(any(taken))
        self.assertFalse(all(taken))

    def test_bent_papers(self):
        seen = {}
        for facts, table, answers in cases(64, 60):
            verdict = Verdict(table, answers)
            for one, other in itertools.product(facts.frame.members, repeat=2):
                paper = verdict.paper(one, other)
                if seen.setdefault(paper[0], 0) < 25:
                    seen[paper[0]] += 1
                    for thing in bends(paper, facts.frame.members):
                        self.assertIs(shows(table, answers, one, other, thing), is_certificate(facts, one, other, thing), (one, other, thing))
        self.assertEqual(len(seen), 5)

    def test_all_words_for_apart_and_locked(self):
        for facts, table, answers in cases(65, 80):
            for one, other in itertools.product(facts.frame.members, repeat=2):
                places = [None, *range(-1, len(table) + 1)]
                things = [("apart", index) for index in places] + [("locked", *pair) for pair in itertools.product(places, repeat=2)]
                for thing in things:
                    self.assertIs(shows(table, answers, one, other, thing), is_certificate(facts, one, other, thing))

    def test_all_pairs_of_boards_for_open(self):
        for facts, table, answers in cases(66, 25, most=4):
            boards = [Board.of(facts.frame, blocks) for blocks in facts.fitting[:6]]
            for one, other in itertools.product(facts.frame.members, repeat=2):
                for pair in itertools.product(boards, repeat=2):
                    thing = ("open", *pair)
                    self.assertIs(shows(table, answers, one, other, thing), is_certificate(facts, one, other, thing))

    def test_any_values(self):
        for facts, table, answers in cases(67, 12, most=4):
            for one, other in itertools.product(facts.frame.members, repeat=2):
                for value in any_values() + no_names() + [deep(tuple, 100), deep(list, 100)]:
                    for thing in (value, (value,), ("together", value), ("apart", value), ("open", value, value), ("locked", value, value)):
                        self.assertIs(shows(table, answers, one, other, thing), is_certificate(facts, one, other, thing), thing)

    def test_the_example(self):
        frame = Frame(*[Driver(name) for name in "abcd"])
        table = Table(frame, Word(frame, a=0, c=0), Word(frame, b=0, c=0))
        answers = table.answers_of(Board(frame, ["a", "b"]))
        tree = ("leg", "c", (("word", 1), ("word", 2)))
        self.assertIs(shows(table, answers, "a", "b", ("together", tree)), True)
        self.assertIs(shows(table, answers, "b", "a", ("together", tree)), False)
        self.assertIs(shows(table, answers, "b", "a", ("together", ("leg", "c", (("word", 2), ("word", 1))))), True)
        self.assertIs(shows(table, answers, "a", "b", ("together", ("leg", "c", (("word", True), ("word", 2))))), False)
        self.assertIs(shows(table, answers, "a", "b", ("together", ["leg", "c", (("word", 1), ("word", 2))])), False)
        self.assertIs(shows(table, answers, "a", "b", ("together", ("leg", "c", [("word", 1), ("word", 2)]))), False)
        self.assertIs(shows(table, answers, "a", "b", ("together", ("leg", "c", (("word", 0), ("word", 2))))), False)
        self.assertIs(shows(table, answers, "a", "c", ("together", tree)), False)
        self.assertIs(shows(table, answers, "a", "d", ("apart", 1)), True)
        self.assertIs(shows(table, answers, "a", "d", ("apart", 0)), False)

    def test_a_tree_for_one_element_shows_nothing(self):
        frame = Frame(Driver("a"), Driver("b"), Driver("c"))
        table = Table(frame, Word(frame, a=0))
        answers = table.answers_of(Board(frame, ["a", "b", "c"]))
        for tree in (("word", 1), ("leg", "b", (("word", 1), ("word", 1))), ("leg", "b", (("word", 1),))):
            self.assertIs(shows(table, answers, "a", "a", ("together", tree)), False)
        self.assertIs(shows(table, answers, "b", "c", ("together", ("word", 1))), True)


class Errors(unittest.TestCase):
    def setUp(self):
        self.frame = Frame(Driver("a"), Driver("b"), Listener("c"))
        self.table = Table(self.frame, Word(self.frame, a=0))
        self.answers = [{"a": 1, "b": 1, "c": 1}, {"a": 0, "b": 1, "c": 0}]

    def test_answers_come_first(self):
        for wrong, error in ((None, InvalidAnswer), (self.answers[:1], InvalidAnswer), ([{"a": 1, "b": 1, "c": 1}, {"a": 1, "b": 1, "c": 1}], NoBoard)):
            for one, other in ((None, "a"), ("a", 7), ("a", "b")):
                with self.assertRaises(error):
                    shows(self.table, wrong, one, other, ("same",))
                with self.assertRaises(error):
                    shows_cases(self.table, wrong, [one, other], ("word", 1))

    def test_the_first_value_that_is_no_element(self):
        for value in no_names():
            for pair, told in (((value, "a"), value), (("a", value), value), ((value, None), value), (("x", value), "x")):
                for thing in (("same",), None, ("apart", 1)):
                    with self.assertRaises(NoLeg) as caught:
                        shows(self.table, self.answers, *pair, thing)
                    self.assertEqual(caught.exception.name, told)

    def test_no_bound(self):
        # Verdict would go through all covers here.
        names = NAMES[:40]
        frame = Frame(*[Driver(name) for name in names])
        words = [Word.of(frame, {names[at]: 0, names[at + 1]: 0}) for at in range(39)]
        table = Table.of(frame, words)
        answers = table.answers_of(Board(frame, names))
        with self.assertRaises(TooMany):
            Verdict(table, answers)
        self.assertIs(shows(table, answers, names[0], names[1], ("apart", 1)), False)
        halves = Board(frame, names[::2], names[1::2])
        self.assertIs(shows(table, answers, names[0], names[1], ("open", Board(frame, names), halves)), True)
        self.assertIs(shows(table, answers, names[0], names[2], ("open", Board(frame, names), halves)), False)
        self.assertIs(shows(table, answers, names[0], names[38], ("together", zigzag(names, 38))), True)
        self.assertIs(shows(table, answers, names[0], names[39], ("together", zigzag(names, 39))), False)
        self.assertIs(shows(table, answers, names[0], names[37], ("together", zigzag(names, 38))), False)


def zigzag(names, last):
    """A deep tree for the first name and the last one, each two neighbours being makers of one word."""
    tree = ("word", last)
    for at in range(last - 1, 0, -1):
        closed = ("word", at)
        tree = ("leg", names[at], (closed, tree) if at % 2 else (tree, closed))
    return tree


class Cases(unittest.TestCase):
    def look_at(self, facts, table, answers, names, thing):
        block = facts.class_of(names[0])
        allowed = len(names) > 1 and set(names) <= set(block) and len(set(names)) == len(names) and block != facts.idle
        right = allowed and shows_tree(block, facts.makers(names[0]), [(name,) for name in names], thing)
        for form in (list(names), tuple(names)):
            self.assertIs(shows_cases(table, answers, form, thing), right, (names, thing))
        return right

    def test_trees_of_verdicts(self):
        told = []
        for facts, table, answers in cases(71, 120, most=6, rows=4):
            verdict = Verdict(table, answers)
            trees = [tree for many in (2, 3) for names in itertools.permutations(facts.frame.members, many)
                     if (tree := verdict.cases(*names)) is not None and self.look_at(facts, table, answers, names, tree)]
            for tree in trees[:3]:
                for many in (1, 2, 3):
                    for names in itertools.product(facts.frame.members, repeat=many):
                        told.append(self.look_at(facts, table, answers, names, tree))
        self.assertTrue(any(told))
        self.assertFalse(all(told))

    def test_every_tree_of_verdicts_is_taken(self):
        for facts, table, answers in cases(72, 80, most=6, rows=4):
            verdict = Verdict(table, answers)
            for many in (2, 3):
                for names in itertools.permutations(facts.frame.members, many):
                    tree = verdict.cases(*names)
                    self.assertIs(shows_cases(table, answers, names, tree), tree is not None)

    def test_bent_trees(self):
        random_one = random.Random(73)
        many = 0
        for facts, table, answers in cases(74, 200, most=6, rows=4):
            verdict = Verdict(table, answers)
            names = random_one.sample(facts.frame.members, min(len(facts.frame.members), random_one.randint(2, 3)))
            tree = verdict.cases(*names)
            if tree is not None:
                many += 1
                for thing in itertools.islice(bends(tree, facts.frame.members), 3000):
                    self.look_at(facts, table, answers, names, thing)
        self.assertGreater(many, 15)

    def test_more_sides(self):
        frame = Frame(*[Driver(name) for name in "abcdefg"])
        table = Table(frame, Word.of(frame, dict.fromkeys("abc", 0)))
        answers = table.answers_of(Board(frame, "a b c d e f g".split()))
        for names in itertools.permutations("adefg", 4):
            right = len(set(names) & set("abc")) + 2 < 4 if "a" in names else True
            self.assertIs(shows_cases(table, answers, names, ("word", 1)), right)
        tree = ("leg", "b", (("word", 1),) * 4)
        self.assertIs(shows_cases(table, answers, ["d", "e", "f", "g"], tree), True)
        self.assertIs(shows_cases(table, answers, ["d", "e", "f"], ("leg", "b", (("word", 1),) * 3)), False)
        self.assertIs(shows_cases(table, answers, ["d", "e", "f", "g"], ("leg", "b", (("word", 1),) * 3)), False)
        self.assertIs(shows_cases(table, answers, ["d", "e", "f", "g"], ("leg", "b", (("word", 1),) * 5)), False)
        self.assertIs(shows_cases(table, answers, ["d", "e", "f", "g", "a"], ("leg", "b", (("word", 1),) * 5)), True)
        self.assertIs(shows_cases(table, answers, ["d", "e", "f", "g"], ("leg", "d", (("word", 1),) * 4)), False)
        self.assertIs(shows_cases(table, answers, list("abcdefg"), ("word", 1)), True)

    def test_names_that_are_no_such_list(self):
        frame = Frame(*[Driver(name) for name in "pqrs"], Listener("x"), Listener("y"), ground=True, power=True)
        table = Table(frame, Word(frame, p=0))
        answers = table.answers_of(Board(frame, ["p", "q", "r"], ["s", "ground"]))
        tree = ("word", 1)
        self.assertIs(shows_cases(table, answers, ["q", "r"], tree), True)
        self.assertIs(shows_cases(table, answers, ("r", "q"), tree), True)
        self.assertIs(shows_cases(table, answers, ["s", "ground"], ("word", 0)), True)
        wrong = [
            "qr", {"q": 1, "r": 2}, [], (), ["q"], ["q", "q"], ["q", "q", "r"], ["q", "s"], ["q", "r", "s"], ["x", "y"], ["q", "z"],
            ["q", None], ["q", ["r"]], [["q", "r"]], ["q", "r", 1], ["power", "x"], ["Q", "r"], ["q", "ground"], Board(frame), None, 2,
        ]
        for names in wrong + any_values():
            for thing in (tree, ("word", 0), ("leg", "p", (tree, tree)), ("leg", "p", (tree,)), None, ()):
                self.assertIs(shows_cases(table, answers, names, thing), False, (names, thing))

    def test_any_values(self):
        frame = Frame(*[Driver(name) for name in "abcd"])
        table = Table(frame, Word(frame, a=0, c=0), Word(frame, b=0, c=0))
        answers = table.answers_of(Board(frame, ["a", "b"]))
        for value in any_values() + no_names() + [deep(tuple, 100), deep(list, 100)]:
            things = [value, ("word", value), ("leg", value, (("word", 1), ("word", 2))), ("leg", "c", value), (value, 1), (value, "c", ())]
            things += [("leg", "c", (value, ("word", 2))), ("leg", "c", (("word", 1), value)), ("leg", "c", (("word", 1), ("word", 2), value))]
            for thing in things:
                right = thing == ("leg", "c", (("word", 1), ("word", 2))) and type(thing[2][0][1]) is int
                self.assertIs(shows_cases(table, answers, ["a", "b"], thing), right, thing)

    def test_trees_of_depth_100(self):
        frame = Frame(*[Driver(name) for name in "abcd"])
        table = Table(frame, Word(frame, a=0, c=0), Word(frame, b=0, c=0))
        answers = table.answers_of(Board(frame, ["a", "b"]))
        tree = ("word", 1)
        for _ in range(50):
            tree = ("leg", "c", (tree, ("word", 2)))
        self.assertIs(shows_cases(table, answers, ["a", "b"], tree), False)
        self.assertIs(shows(table, answers, "a", "b", ("together", tree)), False)

    def test_a_wide_tree(self):
        names = NAMES[:20]
        frame = Frame(*[Driver(name) for name in names])
        table = Table(frame, Word.of(frame, {names[0]: 0}))
        answers = table.answers_of(Board(frame, names))
        tree = ("word", 1)
        for name in names[3:16]:
            tree = ("leg", name, (tree, tree))
        self.assertIs(shows_cases(table, answers, names[1:3], tree), True)
        self.assertIs(shows_cases(table, answers, names[2:4], tree), False)


if __name__ == "__main__":
    unittest.main()
