import itertools
import random
import unittest

from strayjoins.bench import Bench
from strayjoins.boards import Board
from strayjoins.chains import Chain, Hurt
from strayjoins.errors import InvalidBoard, InvalidHurt
from strayjoins.frames import Frame
from strayjoins.legs import Driver, Listener
from strayjoins.words import Word
from tests.brute import levels_of, plain_boards, some_frame
from tests.plain_chain import PlainBench, all_hurts, benches, do_deeds, make_bench, some_levels, some_parts
from tests.values import NAMES

H = Frame(*[Driver(name) for name in "abc"])
CHAIN = Chain(H, ["a", "b"], ["c"])


def worked_bench():
    return Bench(CHAIN, Board(H), Hurt(1, "a"))


class Worked(unittest.TestCase):
    def test_the_example(self):
        bench = worked_bench()
        found = [bench.scan(Word(H, a=0)), str(bench.held), bench.scan(Word(H, b=0)), str(bench.held)]
        self.assertEqual(found, [(1, 0, 1, 1, 0, 1, 1, 0, 1), "a=0", (1, 0, 1, 0, 0, 0, 0, 0, 0), "b=0 c=0"])
        self.assertEqual(bench.scan(Word.rest(H)), (1, 0, 0, 1, 0, 0, 1, 0, 1))

    def test_deeds_and_held(self):
        bench = worked_bench()
        self.assertEqual((bench.deeds, bench.held), ((("reset",),), Word.rest(H)))
        first = bench.scan(word=Word(H, a=0))
        self.assertIs(bench.reset(), None)
        self.assertEqual(bench.held, Word.rest(H))
        second = bench.scan(Word(H, b=0))
        self.assertEqual(bench.deeds, (("reset",), ("scan", Word(H, a=0), first), ("reset",), ("scan", Word(H, b=0), second)))
        self.assertEqual([type(deed) for deed in bench.deeds], [tuple] * 4)
        self.assertEqual([type(part) for part in bench.deeds[1]], [str, Word, tuple])
        self.assertEqual(bench.held, Word(H, b=0))

    def test_the_smallest_chain(self):
        for top in (1, 2, 3):
            frame = Frame(top=top, ground=True, power=True)
            found = [Bench(Chain(frame, []), Board(frame), hurt).scan(Word(frame)) for hurt in (
                None, Hurt(0, "ground"), Hurt(1, "ground"), Hurt(0, "power"), Hurt(1, "nothing"))]
            self.assertEqual(found, [(top, 0, 0, top), (top, 0, 0, 0), (0, 0, 0, 0), (top, 0, top, top), (top, top, top, top)])


class BeatByBeat(unittest.TestCase):
    def look_at(self, random_one, frame, parts, blocks, hurt, many):
        plain, bench = PlainBench(frame, parts, blocks, hurt), make_bench(frame, parts, blocks, hurt)
        deeds = [("reset",)]
        for _ in range(many):
            if random_one.random() < 0.2:
                plain.reset()
                bench.reset()
                deeds.append(("reset",))
            else:
                word = Word.of(frame, some_levels(random_one, frame))
                pairs = list(bench.beats(word))
                entering, leaving = plain.scan(levels_of(word))
                self.assertEqual(pairs, list(zip(entering, leaving)))
                found = bench.scan(word)
                self.assertEqual(found, leaving)
                self.assertIs(type(found), tuple)
                deeds.append(("scan", word, found))
            self.assertEqual(levels_of(bench.held), {name: plain.levels.get(name, frame.top) for name in frame.drivers})
            self.assertEqual(bench.deeds, tuple(deeds))

    def test_some_links(self):
        random_one = random.Random(171)
        for _ in range(400):
            frame = some_frame(random_one, 6)
            parts = some_parts(random_one, frame, 8)
            hurt = random_one.choice(all_hurts(frame, parts))
            self.look_at(random_one, frame, parts, random_one.choice(plain_boards(frame)), hurt, 10)

    def test_each_link(self):
        random_one = random.Random(172)
        for top, rails in itertools.product((1, 2), ({}, {"ground": True}, {"power": True}, {"ground": True, "power": True})):
            frame = Frame(Driver("a"), Driver("b"), Listener("c"), top=top, **rails)
            for parts in ([["b", "c", "a"]], [["a"], ["c", "b"]], [["c"], [], ["a", "b"]]):
                for hurt in all_hurts(frame, parts):
                    for blocks in plain_boards(frame):
                        self.look_at(random_one, frame, parts, blocks, hurt, 2)

    def test_great_frames(self):
        random_one = random.Random(173)
        frame = Frame(*[Driver(name) for name in NAMES[:35]], *[Listener(name) for name in NAMES[35:]], top=3, ground=True, power=True)
        for _ in range(12):
            parts = some_parts(random_one, frame, 8)
            names = list(frame.names)
            random_one.shuffle(names)
            blocks = [tuple(sorted(names[at:at + 3])) for at in range(0, 40, 3)] + [("ground",), ("power",)]
            self.look_at(random_one, frame, parts, blocks, random_one.choice(all_hurts(frame, parts)), 6)


class Beats(unittest.TestCase):
    def test_nothing_is_changed(self):
        for frame, parts, blocks, hurt, bench in benches(174, 60):
            held, deeds = bench.held, bench.deeds
            word = Word.of(frame, {name: 0 for name in frame.drivers})
            pairs = list(bench.beats(word=word))
            self.assertEqual((bench.held, bench.deeds), (held, deeds))
            self.assertEqual([pair[0] for pair in pairs], list(Chain.of(frame, parts).entering(word)))
            self.assertEqual(tuple(pair[1] for pair in pairs), bench.scan(word))
            self.assertEqual({type(pair) for pair in pairs}, {tuple})

    def test_asked_ahead(self):
        # The bench as it is when the first pair is requested, not when the generator is made.
        bench, other = worked_bench(), worked_bench()
        beats = bench.beats(Word(H, b=0))
        for one in (bench, other):
            one.scan(Word(H, a=0))
        self.assertEqual(list(beats), list(other.beats(Word(H, b=0))))

    def test_a_scan_meanwhile(self):
        bench = worked_bench()
        bench.scan(Word(H, a=0))
        told = list(bench.beats(Word(H, b=0)))
        beats = bench.beats(Word(H, b=0))
        found = [next(beats)]
        bench.reset()
        bench.scan(Word(H, c=0))
        self.assertEqual(found + list(beats), told)

    def test_by_turns(self):
        bench = worked_bench()
        bench.scan(Word(H, a=0))
        words = [Word(H, b=0), Word(H, c=0), Word.rest(H)]
        told = [list(bench.beats(word)) for word in words]
        walked = list(zip(*[bench.beats(word) for word in words]))
        self.assertEqual(walked, list(zip(*told)))


class Trials(unittest.TestCase):
    def scanned(self):
        bench = worked_bench()
        bench.scan(Word(H, a=0))
        return bench

    def test_a_block(self):
        bench = self.scanned()
        held, deeds = bench.held, bench.deeds
        with bench.trial() as same:
            self.assertIs(same, bench)
            bench.scan(Word(H, b=0))
            bench.reset()
            self.assertEqual((len(bench.deeds), bench.held), (4, Word.rest(H)))
        self.assertEqual((bench.held, bench.deeds), (held, deeds))
        self.assertEqual(bench.scan(Word(H, b=0)), (1, 0, 1, 0, 0, 0, 0, 0, 0))

    def test_as_it_was_when_the_block_began(self):
        bench = self.scanned()
        trial = bench.trial()
        bench.scan(Word(H, b=0))
        deeds = bench.deeds
        for _ in range(2):
            with trial:
                bench.reset()
            self.assertEqual(bench.deeds, deeds)

    def test_one_within_another(self):
        bench = self.scanned()
        with bench.trial():
            bench.scan(Word(H, b=0))
            inner = (bench.held, bench.deeds)
            with bench.trial() as same:
                same.reset()
                self.assertEqual(bench.tried(lambda one: (one.scan(Word(H, c=0)), len(one.deeds))[1]), 5)
                self.assertEqual(len(bench.deeds), 4)
            self.assertEqual((bench.held, bench.deeds), inner)
        self.assertEqual((str(bench.held), len(bench.deeds)), ("a=0", 2))

    def test_errors(self):
        bench = self.scanned()
        deeds = bench.deeds
        for error in (KeyError("x"), InvalidBoard("frame"), ValueError(), StopIteration()):
            with self.assertRaises(type(error)) as caught:
                with bench.trial():
                    bench.reset()
                    raise error
            self.assertIs(caught.exception, error)
            self.assertEqual(bench.deeds, deeds)

            def deed(one):
                one.scan(Word(H, c=0))
                raise error
            with self.assertRaises(type(error)) as caught:
                bench.tried(deed)
            self.assertIs(caught.exception, error)
            self.assertEqual(bench.deeds, deeds)

    def test_leaving_a_block_early(self):
        bench = self.scanned()
        for _ in range(3):
            with bench.trial():
                bench.reset()
                continue
        self.assertEqual(len(bench.deeds), 2)

    def test_tried(self):
        bench = self.scanned()
        self.assertIs(bench.tried(deed=lambda one: one), bench)
        self.assertIs(bench.tried(lambda one: one.reset()), None)
        self.assertEqual(bench.tried(lambda one: one.scan(Word(H, b=0))), (1, 0, 1, 0, 0, 0, 0, 0, 0))
        self.assertEqual((str(bench.held), len(bench.deeds)), ("a=0", 2))


class Asked(unittest.TestCase):
    def test_none_and_several(self):
        for frame, parts, blocks, hurt, bench in benches(175, 80):
            held, deeds = bench.held, bench.deeds
            words = [Word.of(frame, {name: at for name in frame.drivers[::step]}) for at in range(2) for step in (1, 2)]
            found = bench.asked(*words)
            self.assertEqual(bench.asked(), [])
            self.assertEqual((bench.held, bench.deeds), (held, deeds))
            self.assertIs(type(found), list)
            expected = []
            for word in words:
                other = make_bench(frame, parts, blocks, hurt)
                other.scan(word)
                expected.append(other.scan(Word.rest(frame)))
            self.assertEqual(found, expected)
            self.assertEqual(bench.asked(words[1]), found[1:2])


class Errors(unittest.TestCase):
    def test_boards(self):
        others = [Frame(*[Driver(name) for name in "abd"]), Frame(*[Driver(name) for name in "abc"], top=2),
                  Frame(*[Driver(name) for name in "abc"], ground=True), Frame()]
        for frame in others:
            for hurt in (None, Hurt(1, "a"), Hurt(8, "a"), Hurt(0, "ground"), Hurt(8, "power")):
                with self.assertRaises(InvalidBoard) as caught:
                    Bench(CHAIN, Board(frame), hurt)
                self.assertEqual(caught.exception.reason, "frame")
        self.assertEqual(Bench(hurt=None, board=Board(Frame(*[Driver(name) for name in "cba"])), chain=CHAIN).held, Word.rest(H))

    def reason(self, chain, board, hurt):
        with self.assertRaises(InvalidHurt) as caught:
            Bench(chain, board, hurt)
        return caught.exception.reason

    def test_links(self):
        for parts in range(1, 9):
            chain = Chain(H, ["a", "b", "c"], *[[]] * (parts - 1))
            for link in range(9):
                if link <= parts:
                    Bench(chain, Board(H), Hurt(link, "a"))
                else:
                    for name in ("a", "nothing", "ground", "zz"):
                        self.assertEqual(self.reason(chain, Board(H), Hurt(link, name)), "link")

    def test_names(self):
        for name in ("d", "ground", "power", "abc"):
            self.assertEqual(self.reason(CHAIN, Board(H), Hurt(2, name)), "name")
        frame = Frame(Driver("a"), ground=True)
        chain = Chain(frame, ["a"])
        self.assertEqual(self.reason(chain, Board(frame), Hurt(0, "power")), "name")
        for name in ("a", "ground", "nothing"):
            Bench(chain, Board(frame), Hurt(0, name))


class ByTurns(unittest.TestCase):
    def test_two_benches(self):
        random_one = random.Random(176)
        one, other = worked_bench(), worked_bench()
        alone = worked_bench()
        words = [Word.of(H, some_levels(random_one, H)) for _ in range(20)]
        for word in words:
            other.scan(word & Word(H, c=0))
            other.reset()
            self.assertEqual(one.scan(word), alone.scan(word))
        self.assertEqual(one.deeds, alone.deeds)
        self.assertEqual(len(other.deeds), 41)

    def test_deeds_that_were_returned_stay(self):
        bench = worked_bench()
        deeds = bench.deeds
        do_deeds(random.Random(177), bench, H, 5)
        self.assertEqual(deeds, (("reset",),))
        self.assertEqual(bench.deeds[:1], deeds)


if __name__ == "__main__":
    unittest.main()
