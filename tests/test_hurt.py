import itertools
import random
import unittest

from strayjoins.bench import Bench
from strayjoins.boards import Board
from strayjoins.chains import Chain, Hurt
from strayjoins.errors import InvalidBoard, InvalidHurt, InvalidScan, NoBoard, NoLeg, TooMany
from strayjoins.frames import Frame
from strayjoins.hurt import HurtVerdict, agrees, deeds_for, lone_words
from strayjoins.legs import Driver, Listener
from strayjoins.scans import Scans
from strayjoins.tables import Table
from strayjoins.verdicts import Verdict
from strayjoins.words import Word
from tests.brute import joins, plain_boards, some_frame
from tests.plain_chain import agreeing, all_hurts, benches, do_deeds, make_bench, plain_agrees, some_parts
from tests.test_scans import two_marks, wrong_index
from tests.values import NAMES, no_names, no_strings

H = Frame(*[Driver(name) for name in "abc"])
CHAIN = Chain(H, ["a", "b"], ["c"])
RESET = ("reset",)


def worked_deeds():
    bench = Bench(CHAIN, Board(H), Hurt(1, "a"))
    for word in (Word(H, a=0), Word(H, b=0), Word.rest(H)):
        bench.scan(word)
    return bench.deeds


def answered(bench, words):
    """The deeds of a bench that asks these words behind resets."""
    for deed in deeds_for(words)[1:]:
        bench.reset() if deed == RESET else bench.scan(deed[1])
    return bench.deeds


def told(found):
    """What is told of an element by the list of whether it is so in each case."""
    return "surely" if all(found) else "maybe" if any(found) else "not"


class Told(unittest.TestCase):
    def look_at(self, frame, parts, deeds):
        """Holds a verdict against all boards with all hurt links; the verdict, None if nothing agrees."""
        chain = Chain.of(frame, parts)
        pairs = agreeing(frame, parts, deeds)
        if not pairs:
            with self.assertRaises((InvalidScan, NoBoard)):
                HurtVerdict(chain, deeds)
            return None
        hurt = HurtVerdict(chain, deeds)
        for name in frame.members:
            found = [link is not None and link[1] != "nothing" and joins(blocks, link[1], name) for blocks, link in pairs]
            self.assertEqual(hurt.with_link(name), told(found), (deeds, name))
        stands = {"surely": "together", "maybe": "open", "not": "apart"}
        for one, other in itertools.product(frame.members, repeat=2):
            found = stands[told([joins(blocks, one, other) for blocks, _ in pairs])]
            self.assertEqual(hurt.says(one, other), found, (deeds, one, other))
        drivers = frame.drivers
        self.assertIs(hurt.settled, all(hurt.with_link(name) != "maybe" for name in drivers) and all(
            hurt.says(one, other) != "open" for one, other in itertools.combinations(drivers, 2)))
        if hurt.table is None:
            self.assertIs(hurt.verdict, None)
        else:
            self.assertIs(type(hurt.verdict), Verdict)
            self.assertEqual((hurt.verdict.table, hurt.verdict.answers), (hurt.table, hurt.answers))
        return hurt

    def test_benches(self):
        kinds = {}
        for frame, parts, blocks, hurt, bench in benches(221, 250, most=5, deeds=7):
            verdict = self.look_at(frame, parts, bench.deeds)
            kinds[verdict.kind] = kinds.get(verdict.kind, 0) + 1
            scans = Scans(Chain.of(frame, parts), bench.deeds)
            for name in ("link", "kind", "held", "caps", "kept", "table", "answers"):
                self.assertEqual(getattr(verdict, name), getattr(scans, name))
        self.assertEqual(set(kinds), {"quiet", "lifted", "ground", "joined"})
        self.assertGreater(min(kinds.values()), 15)

    def test_each_hurt_link(self):
        random_one = random.Random(222)
        for top, rails in ((2, {}), (1, {"ground": True}), (2, {"power": True}), (1, {"ground": True, "power": True})):
            frame = Frame(Driver("a"), Driver("b"), Listener("c"), top=top, **rails)
            parts = [["a"], ["c", "b"]]
            for hurt in all_hurts(frame, parts):
                boards = plain_boards(frame)
                for blocks in random_one.sample(boards, min(len(boards), 10)):
                    bench = make_bench(frame, parts, blocks, hurt)
                    do_deeds(random_one, bench, frame, 4, 0.25)
                    self.look_at(frame, parts, bench.deeds)

    def test_drivers_that_are_joined(self):
        # Idle classes with many mute drivers: surely, maybe and not beside one another.
        random_one = random.Random(223)
        stands = set()
        for _ in range(40):
            frame = Frame(*[Driver(name) for name in "abcd"], top=random_one.choice([1, 2, 3]), power=random_one.random() < 0.3)
            parts = some_parts(random_one, frame, 2)
            block = tuple(sorted(random_one.sample("abcd", random_one.randint(1, 3))))
            blocks = tuple(sorted([block] + [(name,) for name in frame.members if name not in block]))
            bench = make_bench(frame, parts, blocks, (random_one.randint(0, len(parts)), block[0]))
            do_deeds(random_one, bench, frame, 6, 0.5)
            hurt = self.look_at(frame, parts, bench.deeds)
            if hurt.verdict is not None:
                stands.add(tuple(sorted({hurt.with_link(name) for name in hurt.verdict.mute})))
        for key in (("maybe",), ("maybe", "surely"), ("maybe", "not", "surely")):
            self.assertIn(key, stands)

    def changed(self, random_one, frame, deeds):
        """The deeds with another head, other marks, other digits, another word, or one deed less."""
        deeds = list(deeds)
        at = random_one.randrange(1, len(deeds))
        if random_one.random() < 0.3:
            del deeds[at]
        elif deeds[at] != RESET:
            digits = list(deeds[at][2])
            word = deeds[at][1]
            if random_one.random() < 0.5:
                digits[random_one.randrange(len(digits))] = random_one.randint(0, frame.top)
            else:
                word = word & Word.of(frame, {name: random_one.randint(0, frame.top) for name in frame.drivers})
            deeds[at] = ("scan", word, tuple(digits))
        return deeds

    def test_changed_deeds(self):
        random_one = random.Random(224)
        counted = [0, 0]
        for frame, parts, blocks, hurt, bench in benches(225, 300, most=4, deeds=6):
            if len(bench.deeds) > 1:
                deeds = self.changed(random_one, frame, bench.deeds)
                counted[self.look_at(frame, parts, deeds) is None] += 1
        self.assertGreater(min(counted), 25)


class Kinds(unittest.TestCase):
    def test_the_example(self):
        hurt = HurtVerdict(deeds=worked_deeds(), chain=CHAIN)
        self.assertEqual([hurt.with_link(name) for name in "abc"], ["surely", "not", "not"])
        self.assertEqual(hurt.says("a", "b"), "apart")
        self.assertEqual(hurt.says("b", "c"), "open")
        self.assertIs(hurt.settled, False)
        self.assertEqual(hurt.verdict.says("a", "b"), "apart")

    def test_two_that_are_surely_with_it(self):
        bench = Bench(CHAIN, Board(H, ["a", "b"]), Hurt(1, "a"))
        hurt = HurtVerdict(CHAIN, answered(bench, lone_words(H)))
        self.assertEqual([hurt.with_link(name) for name in "abc"], ["surely", "surely", "not"])
        self.assertEqual([hurt.says("a", "b"), hurt.says("a", "c"), hurt.says("b", "c")], ["together", "apart", "apart"])
        # The kept scans alone leave open whether a and b are joined.
        self.assertEqual(hurt.verdict.says("a", "b"), "open")
        self.assertIs(hurt.settled, True)
        self.assertIs(hurt.verdict.settled, False)

    def test_no_scans(self):
        frame = Frame(Driver("a"), Driver("b"), Listener("c"), ground=True, power=True)
        hurt = HurtVerdict(Chain(frame, ["a", "b", "c"]), [RESET, RESET])
        self.assertEqual([hurt.with_link(name) for name in frame.members], ["maybe"] * 5)
        self.assertEqual((hurt.kind, hurt.link, hurt.verdict, hurt.settled), ("quiet", None, None, False))
        self.assertEqual([hurt.says("a", "b"), hurt.says("c", "power"), hurt.says("a", "a"), hurt.says("power", "power")],
                         ["open", "open", "together", "together"])
        self.assertEqual([hurt.says("ground", "power"), hurt.says("power", "ground")], ["apart", "apart"])
        self.assertIs(HurtVerdict(Chain(Frame(), []), [RESET]).settled, True)
        self.assertIs(HurtVerdict(Chain(Frame(Listener("a"), Listener("b")), ["a", "b"]), [RESET]).settled, True)

    def rail(self, name, **rails):
        frame = Frame(Driver("a"), Driver("b"), Listener("c"), **rails)
        chain = Chain(frame, ["a", "b", "c"])
        bench = Bench(chain, Board(frame), Hurt(0, name))
        return HurtVerdict(chain, answered(bench, lone_words(frame)))

    def test_lifted(self):
        hurt = self.rail("power", ground=True, power=True)
        self.assertEqual((hurt.kind, hurt.verdict, hurt.settled), ("lifted", None, False))
        self.assertEqual({name: hurt.with_link(name) for name in ("a", "b", "c", "ground", "power")},
                         {"a": "maybe", "b": "maybe", "c": "maybe", "ground": "not", "power": "maybe"})
        self.assertEqual([hurt.says("a", "power"), hurt.says("a", "b"), hurt.says("ground", "power"), hurt.says("b", "b")],
                         ["open", "open", "apart", "together"])
        hurt = self.rail("nothing", ground=True)
        self.assertEqual({hurt.with_link(name) for name in ("a", "b", "c", "ground")}, {"not"})
        self.assertEqual((hurt.says("a", "ground"), hurt.settled), ("open", False))
        frame = Frame(Driver("a"), Listener("c"))
        chain = Chain(frame, ["a", "c"])
        bench = Bench(chain, Board(frame), Hurt(0, "nothing"))
        bench.scan(Word(frame))
        self.assertIs(HurtVerdict(chain, bench.deeds).settled, True)

    def test_ground(self):
        hurt = self.rail("ground", ground=True, power=True)
        self.assertEqual((hurt.kind, hurt.verdict, hurt.settled), ("ground", None, False))
        self.assertEqual({name: hurt.with_link(name) for name in ("a", "b", "c", "ground", "power")},
                         {"a": "maybe", "b": "maybe", "c": "maybe", "ground": "surely", "power": "not"})
        self.assertEqual([hurt.says("a", "ground"), hurt.says("a", "b"), hurt.says("power", "ground"), hurt.says("c", "c")],
                         ["open", "open", "apart", "together"])
        self.assertEqual({self.rail("ground", ground=True).with_link(name) for name in "abc"}, {"maybe"})

    def test_quiet(self):
        frame = Frame(Driver("a"), Driver("b"), Driver("d"), Listener("c"), ground=True, power=True)
        chain = Chain(frame, ["a", "b"], ["c", "d"])
        bench = Bench(chain, Board(frame, ["a", "ground"], ["d", "power"]))
        for word in (Word(frame, d=0), Word(frame)):
            bench.scan(word)
        hurt = HurtVerdict(chain, bench.deeds)
        self.assertEqual({name: hurt.with_link(name) for name in frame.members},
                         {"a": "not", "b": "maybe", "c": "maybe", "d": "not", "ground": "not", "power": "not"})
        self.assertEqual((hurt.kind, hurt.settled), ("quiet", False))
        self.assertEqual([hurt.says("d", "power"), hurt.says("b", "c"), hurt.says("a", "b"), hurt.says("a", "ground")],
                         ["together", "open", "apart", "together"])

    def test_lone_words_leave_no_driver_open(self):
        kinds = set()
        for rails in ({}, {"ground": True}, {"power": True}, {"ground": True, "power": True}):
            frame = Frame(Driver("a"), Driver("b"), Listener("c"), top=2, **rails)
            parts = [["a"], ["c", "b"]]
            for hurt in all_hurts(frame, parts):
                for blocks in plain_boards(frame):
                    bench = make_bench(frame, parts, blocks, hurt)
                    verdict = HurtVerdict(Chain.of(frame, parts), answered(bench, lone_words(frame)))
                    kinds.add(verdict.kind)
                    if verdict.kind in ("quiet", "joined"):
                        stands = [verdict.with_link(name) for name in frame.drivers]
                        self.assertNotIn("maybe", stands)
                        self.assertIs(verdict.settled, True)
                        self.assertEqual(verdict.says("a", "b"), "together" if joins(blocks, "a", "b") else "apart")
        self.assertEqual(kinds, {"quiet", "lifted", "ground", "joined"})


class Errors(unittest.TestCase):
    def index(self, chain, deeds):
        with self.assertRaises(InvalidScan) as caught:
            HurtVerdict(chain, deeds)
        return caught.exception.index

    def test_as_scans(self):
        for value in no_strings() + ["", [], ("reset",), [RESET, None], [RESET, ("scan", Word(H), (0,) * 9)]]:
            index = wrong_index(CHAIN, value)
            self.assertEqual(self.index(CHAIN, value), index)

    def test_sixty_kept_scans(self):
        scan = two_marks(CHAIN, Word(H), 0, (0, 1))
        self.assertEqual(len(HurtVerdict(CHAIN, [RESET] + [scan] * 60).verdict.table), 60)
        with self.assertRaises(TooMany) as caught:
            HurtVerdict(CHAIN, [RESET] + [scan] * 61)
        self.assertEqual(caught.exception.most, 60)

    def test_no_board(self):
        # The index is that of the word in the table of the kept scans.
        low = (1, 0, 1, 1, 0, 0, 1, 0, 1)
        bench = Bench(CHAIN, Board(H), Hurt(1, "a"))
        for word in (Word(H, a=0), Word(H, b=0), Word.rest(H)):
            bench.scan(word)
        deeds = bench.deeds
        self.assertEqual([deed[2][-1] for deed in deeds[1:]], [1, 0, 1])
        for digits, index, name in ((low, 1, "c"), ((1, 0, 0, 1, 0, 1, 1, 0, 1), 1, "b"), ((1, 0, 0, 1, 0, 0, 0, 0, 1), None, None)):
            changed = (*deeds[:3], ("scan", deeds[3][1], digits))
            if index is None:
                HurtVerdict(CHAIN, deeds)
                continue
            with self.assertRaises(NoBoard) as caught:
                HurtVerdict(CHAIN, changed)
            self.assertEqual((caught.exception.index, caught.exception.name), (index, name))

    def test_no_holder(self):
        # b was driven at 0 in the first spoiled scan, c in the second one: no driver at 0 in both is not needed,
        # but each holder is at top or above the cap in the other one.
        sound, low = [lambda word, head=head: two_marks(CHAIN, word, 1, head) for head in ((0, 1), (0, 0))]
        rest, b = Word(H), Word(H, b=0)
        good = [RESET, sound(b), low(rest), RESET, sound(b), low(rest)]
        self.assertEqual(HurtVerdict(CHAIN, good).with_link("b"), "surely")
        bad = [RESET, sound(rest), low(rest), RESET, sound(b), low(rest)]
        self.assertEqual(self.index(CHAIN, bad), 2)
        bad = [RESET, sound(b), low(rest), RESET, RESET, sound(rest), low(rest), low(rest)]
        self.assertEqual(self.index(CHAIN, bad), 6)
        # b is locked, or reads below top at a kept scan: then it is no candidate.
        kept = ("scan", rest, (1, 0, 1, 1, 0, 0, 1, 0, 1))
        self.assertEqual(self.index(CHAIN, [RESET, sound(b), low(rest), RESET, sound(b), kept]), 2)

    def test_a_cap_that_a_driver_is_below(self):
        frame = Frame(Driver("a"), Driver("b"), top=3)
        chain = Chain(frame, ["a", "b"])
        words = [Word(frame, a=1, b=0), Word(frame, b=2), Word(frame, a=1, b=2)]
        one, two, both = [[RESET, two_marks(chain, word, 0, (0, 3)), two_marks(chain, Word(frame), 0, (0, cap))]
                          for word, cap in zip(words, (1, 2, 1))]
        # Link 0 caps what arrives, but the words were held behind kept scans.
        hurt = HurtVerdict(chain, one + both)
        self.assertEqual([hurt.with_link(name) for name in "ab"], ["surely", "not"])
        self.assertEqual(hurt.says("a", "b"), "apart")
        self.assertEqual(self.index(chain, one + two), 5)
        self.assertEqual(self.index(chain, two + one), 2)
        hurt = HurtVerdict(chain, both + two)
        self.assertEqual([hurt.with_link(name) for name in "ab"], ["surely", "surely"])
        self.assertEqual((hurt.says("a", "b"), hurt.settled), ("together", True))

    def test_too_many(self):
        names = NAMES[:24]
        frame = Frame(*[Driver(name) for name in names])
        chain = Chain(frame, names)
        bench = Bench(chain, Board(frame, names))
        deeds = answered(bench, [Word.of(frame, {names[at]: 0, names[at + 1]: 0}) for at in range(0, 24, 2)])
        with self.assertRaises(TooMany) as caught:
            HurtVerdict(chain, deeds)
        self.assertEqual(caught.exception.most, Verdict.MOST)

    def test_the_order_of_errors(self):
        sound, low = [lambda word, head=head: two_marks(CHAIN, word, 1, head) for head in ((0, 1), (0, 0))]
        rest = Word(H)
        unheld = [RESET, sound(rest), low(rest)]
        self.assertEqual(self.index(CHAIN, unheld), 2)
        nobody = [RESET, ("scan", rest, (1, 0, 0, 1, 0, 1, 1, 0, 1))]
        with self.assertRaises(NoBoard):
            HurtVerdict(CHAIN, unheld + nobody)
        self.assertEqual(self.index(CHAIN, unheld + nobody + [None]), 5)
        with self.assertRaises(TooMany):
            HurtVerdict(CHAIN, unheld + nobody + [sound(rest)] * 60)

    def test_no_leg(self):
        for deeds in ([RESET], worked_deeds()):
            hurt = HurtVerdict(CHAIN, deeds)
            for value in no_names() + ["d", "ground", "power"]:
                for call in (lambda: hurt.with_link(value), lambda: hurt.says(value, "a"), lambda: hurt.says("a", value),
                             lambda: hurt.says(value, "zz"), lambda: hurt.says(value, value), lambda: hurt.with_link(name=value)):
                    with self.assertRaises(NoLeg) as caught:
                        call()
                    self.assertIs(caught.exception.name, value)
            with self.assertRaises(NoLeg) as caught:
                hurt.says(one="zz", other=None)
            self.assertEqual(caught.exception.name, "zz")

    def test_deeds_may_be_changed(self):
        deeds = list(worked_deeds())
        hurt = HurtVerdict(CHAIN, deeds)
        deeds.clear()
        hurt.answers.clear()
        self.assertEqual([hurt.with_link(name) for name in "abc"], ["surely", "not", "not"])
        self.assertEqual(len(hurt.answers), 2)


class Asked(unittest.TestCase):
    def test_deeds_for(self):
        words = [Word(H, a=0), Word(H), Word(H, b=0, c=0)]
        rest = ("scan", Word.rest(H))
        expected = (RESET, ("scan", words[0]), rest, RESET, ("scan", words[1]), rest, RESET, ("scan", words[2]), rest)
        for kind in (list, tuple):
            self.assertEqual(deeds_for(words=kind(words)), expected)
            self.assertEqual(deeds_for(kind()), ())
        self.assertIs(type(deeds_for(words)), tuple)
        self.assertEqual({type(deed) for deed in deeds_for(words)}, {tuple})

    def test_lone_words(self):
        frame = Frame(Driver("b"), Driver("a"), Listener("c"), Driver("frame"), top=3, ground=True)
        self.assertEqual(lone_words(frame=frame), (Word(frame, a=0), Word(frame, b=0), Word.of(frame, {"frame": 0})))
        self.assertIs(type(lone_words(frame)), tuple)
        self.assertEqual(lone_words(Frame(Listener("a"), power=True)), ())


class Agrees(unittest.TestCase):
    def test_against_beats(self):
        random_one = random.Random(226)
        counted = [0, 0]
        for frame, parts, blocks, hurt, bench in benches(227, 300, most=5, deeds=6):
            chain = Chain.of(frame, parts)
            self.assertIs(agrees(chain, bench.deeds, Board.of(frame, blocks), None if hurt is None else Hurt(*hurt)), True)
            for _ in range(6):
                other = random_one.choice(plain_boards(frame)) if random_one.random() < 0.6 else blocks
                link = random_one.choice(all_hurts(frame, parts)) if random_one.random() < 0.6 else hurt
                right = plain_agrees(frame, parts, other, link, bench.deeds)
                counted[right] += 1
                found = agrees(chain, list(bench.deeds), Board.of(frame, other), None if link is None else Hurt(*link))
                self.assertIs(found, right)
        self.assertGreater(min(counted), 200)

    def test_by_name_and_without_a_link(self):
        bench = Bench(CHAIN, Board(H, ["a", "b"]))
        bench.scan(Word(H, a=0))
        bench.scan(Word(H))
        self.assertIs(agrees(hurt=None, board=Board(H, ["a", "b"]), deeds=bench.deeds, chain=CHAIN), True)
        self.assertIs(agrees(CHAIN, bench.deeds, Board(H)), False)
        self.assertIs(agrees(CHAIN, bench.deeds, Board(H, ["a", "b"]), Hurt(0, "c")), True)
        self.assertIs(agrees(CHAIN, bench.deeds, Board(H, ["a", "b"]), Hurt(0, "b")), False)
        self.assertIs(agrees(CHAIN, [RESET], Board(H), Hurt(2, "nothing")), True)

    def test_what_is_not_looked_at(self):
        deeds = list(worked_deeds())
        spoiled = deeds[2]
        for at in range(9):
            digits = list(spoiled[2])
            digits[at] = 1 - digits[at]
            deeds[2] = ("scan", spoiled[1], tuple(digits))
            if at in (2, 5, 6):
                self.assertIs(agrees(CHAIN, deeds, Board(H), Hurt(1, "a")), True)
            else:
                with self.assertRaises(InvalidScan) if wrong_index(CHAIN, deeds) is not None else self.subTest():
                    self.assertIs(agrees(CHAIN, deeds, Board(H), Hurt(1, "a")), False)

    def test_the_order_of_errors(self):
        other = Board(Frame(Driver("a")))
        with self.assertRaises(InvalidScan) as caught:
            agrees(CHAIN, None, other, Hurt(3, "zz"))
        self.assertEqual(caught.exception.index, 0)
        scan = two_marks(CHAIN, Word(H), 0, (0, 1))
        with self.assertRaises(TooMany):
            agrees(CHAIN, [RESET] + [scan] * 61, other, Hurt(3, "zz"))
        for deeds in ([RESET], [RESET, scan], worked_deeds()):
            with self.assertRaises(InvalidBoard) as caught:
                agrees(CHAIN, deeds, other, Hurt(3, "zz"))
            self.assertEqual(caught.exception.reason, "frame")
            for hurt, reason in ((Hurt(3, "zz"), "link"), (Hurt(2, "zz"), "name"), (Hurt(2, "ground"), "name")):
                with self.assertRaises(InvalidHurt) as caught:
                    agrees(CHAIN, deeds, Board(H), hurt)
                self.assertEqual(caught.exception.reason, reason)

    def test_deeds_that_fit_no_board(self):
        # Scans raises nothing for them; no board agrees.
        deeds = [RESET, ("scan", Word(H), (1, 0, 0, 1, 0, 1, 1, 0, 1))]
        with self.assertRaises(NoBoard):
            HurtVerdict(CHAIN, deeds)
        for blocks in plain_boards(H):
            for hurt in all_hurts(H, CHAIN.parts):
                self.assertIs(agrees(CHAIN, deeds, Board.of(H, blocks), None if hurt is None else Hurt(*hurt)), False)


if __name__ == "__main__":
    unittest.main()
