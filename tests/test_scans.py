import itertools
import random
import unittest

from strayjoins.bench import Bench
from strayjoins.boards import Board
from strayjoins.chains import Chain, Hurt
from strayjoins.errors import InvalidScan, TooMany
from strayjoins.frames import Frame
from strayjoins.legs import Driver, Listener
from strayjoins.scans import Scans
from strayjoins.tables import Table
from strayjoins.words import Word
from tests.brute import levels_of, plain_boards, some_frame
from tests.plain_chain import PlainBench, all_hurts, benches, do_deeds, make_bench, some_levels, some_parts
from tests.values import no_strings, no_tuples_or_lists

H = Frame(*[Driver(name) for name in "abc"])
CHAIN = Chain(H, ["a", "b"], ["c"])
RESET = ("reset",)


def looks(chain, digits):
    """The head and the marks of the parts, read off the digits as they left."""
    row = list(digits[:-2])
    marks = []
    for part in chain.parts[::-1]:
        last, first = row[:2]
        marks.insert(0, (first, last))
        row = row[2 + len(part):]
    return tuple(digits[-2:]), marks


def links_that_fit(chain, digits):
    """The numbers of the links that give such a head and such marks; None for no link."""
    top = chain.frame.top
    head, marks = looks(chain, digits)
    if head == (0, top):
        return [None] if all(mark == head for mark in marks) else []
    if head != (top, top) and head[0] != 0:
        return []
    return [link for link in range(len(chain.parts) + 1) if marks == [head] * link + [(0, top)] * (len(marks) - link)]


def wrong_index(chain, deeds):
    """The index that InvalidScan tells, word by word as the document tells it; None if all is right."""
    top = chain.frame.top
    if not isinstance(deeds, (list, tuple)) or not deeds or deeds[0] != RESET:
        return 0
    for at, deed in enumerate(deeds):
        scan = isinstance(deed, tuple) and len(deed) == 3 and deed[0] == "scan" and isinstance(deed[1], Word)
        if deed != RESET and not (scan and deed[1].frame == chain.frame):
            return at
    for at, deed in enumerate(deeds):
        if deed != RESET:
            digits = deed[2]
            if not isinstance(digits, tuple) or len(digits) != sum(len(part) + 2 for part in chain.parts) + 2:
                return at
            if not all(type(digit) is int and 0 <= digit <= top for digit in digits):
                return at
    earlier = []
    for at, deed in enumerate(deeds):
        if deed == RESET:
            continue
        fitting = links_that_fit(chain, deed[2])
        if not fitting:
            return at
        head, link = tuple(deed[2][-2:]), fitting[0]
        lifted, capped = head == (top, top), head[0] == 0 and head[1] < top
        if link is not None and any(other not in (None, link) for _, other in earlier):
            return at
        if any((other == (top, top)) != lifted for other, _ in earlier):
            return at
        if deeds[at - 1] == RESET and capped:
            if head[1] != 0 or not chain.frame.ground or any(other != (0, 0) for other, _ in earlier):
                return at
        if head != (0, 0) and earlier and earlier[0][0][0] == 0 and earlier[0][0][1] < top:
            return at
        earlier.append((head, link))
    return None


def told_index(test, chain, deeds):
    with test.assertRaises(InvalidScan) as caught:
        Scans(chain, deeds)
    return caught.exception.index


def two_marks(chain, word, link, head):
    """Digits of a scan in which all legs read top, and whose head comes back like this over a link."""
    top = chain.frame.top
    digits = []
    for number, part in enumerate(chain.parts):
        mark = head if number < link else (0, top)
        digits += [top] * len(part) + list(mark)
    return ("scan", word, tuple(digits[::-1]) + tuple(head))


class Told(unittest.TestCase):
    def look_at(self, frame, parts, blocks, hurt, deeds):
        chain = Chain.of(frame, parts)
        plain = PlainBench(frame, parts, blocks, hurt)
        held, answers, heads = [], [], []
        for deed in deeds:
            if deed == RESET:
                plain.reset()
                continue
            held.append(Word.of(frame, plain.levels))
            answers.append(dict((cell, digit) for cell, digit in zip(chain.cells, deed[2][-3::-1]) if cell in frame))
            heads.append(plain.scan(levels_of(deed[1]))[1][-2:])
        kept = tuple(at for at, head in enumerate(heads) if head == (0, frame.top))
        scans = Scans(chain, deeds)
        self.assertIs(scans.chain, chain)
        self.assertEqual(scans.held, tuple(held))
        self.assertEqual(scans.caps, tuple(head[1] if head[0] == 0 else frame.top for head in heads))
        self.assertEqual(scans.kept, kept)
        self.assertEqual(scans.link, None if len(kept) == len(heads) else hurt[0])
        kind = "quiet"
        if len(kept) < len(heads):
            kind = "lifted" if heads[0][0] == frame.top else "ground" if heads[0][1] < frame.top else "joined"
        self.assertEqual(scans.kind, kind)
        if kept:
            self.assertEqual(scans.table, Table.of(frame, [held[at] for at in kept[1:]]))
            self.assertEqual(scans.answers, [answers[at] for at in kept])
            self.assertEqual(held[kept[0]], Word.rest(frame))
        else:
            self.assertEqual((scans.table, scans.answers), (None, None))
        self.assertEqual([type(value) for value in (scans.held, scans.caps, scans.kept)], [tuple] * 3)
        return scans

    def test_benches(self):
        kinds = {}
        for frame, parts, blocks, hurt, bench in benches(181, 700, deeds=12):
            scans = self.look_at(frame, parts, blocks, hurt, bench.deeds)
            kinds[scans.kind] = kinds.get(scans.kind, 0) + 1
            self.look_at(frame, parts, blocks, hurt, list(bench.deeds))
        self.assertEqual(set(kinds), {"quiet", "lifted", "ground", "joined"})
        self.assertGreater(min(kinds.values()), 40)

    def test_each_hurt_link(self):
        random_one = random.Random(182)
        for rails in ({}, {"ground": True}, {"power": True}, {"ground": True, "power": True}):
            frame = Frame(Driver("a"), Driver("b"), Listener("c"), top=2, **rails)
            for parts in ([["b", "c", "a"]], [["a"], [], ["c", "b"]]):
                for hurt in all_hurts(frame, parts):
                    for blocks in plain_boards(frame):
                        bench = make_bench(frame, parts, blocks, hurt)
                        do_deeds(random_one, bench, frame, 5, 0.3)
                        self.look_at(frame, parts, blocks, hurt, bench.deeds)

    def test_the_example(self):
        bench = Bench(CHAIN, Board(H), Hurt(1, "a"))
        for word in (Word(H, a=0), Word(H, b=0), Word.rest(H)):
            bench.scan(word)
        scans = Scans(deeds=bench.deeds, chain=CHAIN)
        self.assertEqual((scans.link, scans.kind, scans.kept, scans.caps), (1, "joined", (0, 2), (1, 0, 1)))
        self.assertEqual([str(word) for word in scans.held], ["rest", "a=0", "b=0 c=0"])
        self.assertEqual(scans.table, Table(H, Word(H, b=0, c=0)))
        self.assertEqual(scans.answers, [{"a": 1, "b": 1, "c": 1}, {"a": 1, "b": 0, "c": 0}])

    def test_no_scans(self):
        for deeds in ([RESET], (RESET, RESET, RESET)):
            scans = Scans(CHAIN, deeds)
            self.assertEqual((scans.link, scans.kind, scans.held, scans.caps, scans.kept), (None, "quiet", (), (), ()))
            self.assertEqual((scans.table, scans.answers), (None, None))

    def test_told_anew_each_time(self):
        bench = Bench(CHAIN, Board(H))
        bench.scan(Word(H, a=0))
        deeds = list(bench.deeds)
        scans = Scans(CHAIN, deeds)
        deeds.clear()
        told = scans.answers
        told[0]["a"] = 0
        told.append({})
        self.assertEqual(scans.answers, [{"a": 1, "b": 1, "c": 1}])
        self.assertEqual((scans.kept, len(scans.held), scans.table), ((0,), 1, Table(H)))

    def test_other_digits_of_spoiled_scans_are_not_looked_at(self):
        bench = Bench(CHAIN, Board(H), Hurt(1, "a"))
        for word in (Word(H, a=0), Word(H, b=0), Word.rest(H)):
            bench.scan(word)
        deeds = list(bench.deeds)
        told = Scans(CHAIN, deeds)
        spoiled = deeds[2]
        for levels in itertools.product(range(2), repeat=3):
            digits = list(spoiled[2])
            digits[2], digits[5], digits[6] = levels
            deeds[2] = ("scan", spoiled[1], tuple(digits))
            scans = Scans(CHAIN, deeds)
            self.assertEqual((scans.held, scans.answers, scans.caps), (told.held, told.answers, told.caps))

    def test_answers_that_no_board_gives(self):
        deeds = (RESET, ("scan", Word(H), (1, 0, 0, 1, 0, 0, 0, 0, 1)))
        self.assertEqual(Scans(CHAIN, deeds).answers, [{"a": 0, "b": 0, "c": 0}])


class Wrong(unittest.TestCase):
    def test_no_deeds(self):
        scan = two_marks(CHAIN, Word(H), 0, (0, 1))
        for value in no_tuples_or_lists() + [[], (), [scan], (scan, RESET), [["reset"]], [("reset", "reset")], ["reset"], [None, 5]]:
            self.assertEqual(told_index(self, CHAIN, value), 0)

    def test_wrong_entries(self):
        scan = two_marks(CHAIN, Word(H), 0, (0, 1))
        other = Frame(*[Driver(name) for name in "abc"], top=2)
        wrongs = no_strings() + [
            "", "reset", ["reset"], ("reset", None), ("Reset",), ("scan",), scan[:2], scan + (1,), list(scan), ("scan", "rest", scan[2]),
            ("scan", None, scan[2]), ("scan", Word(other), scan[2]), ("reset", Word(H), scan[2]), (scan,), (True, Word(H), scan[2]),
            ("scan", scan[2], Word(H)), ("scan", H, scan[2]), {"reset": 1},
        ]
        for value in wrongs:
            for at in range(1, 4):
                deeds = [RESET, scan, RESET]
                deeds[at:at] = [value]
                self.assertEqual(told_index(self, CHAIN, deeds), at)
                self.assertEqual(told_index(self, CHAIN, tuple(deeds) + (value, None)), at)
            self.assertEqual(told_index(self, CHAIN, [value, RESET]), 0)

    def test_an_entry_ahead_of_digits(self):
        scan = two_marks(CHAIN, Word(H), 0, (0, 1))
        bad = ("scan", Word(H), None)
        lifted = two_marks(CHAIN, Word(H), 0, (1, 1))
        odd = two_marks(CHAIN, Word(H), 0, (1, 0))
        for first, second, index in (
            (bad, None, 2), (lifted, None, 2), (odd, bad, 2), (lifted, bad, 2), (scan, lifted, 2), (bad, odd, 1), (odd, lifted, 1), (scan, odd, 2),
        ):
            self.assertEqual(told_index(self, CHAIN, [RESET, first, second]), index)

    def test_wrong_digits(self):
        right = two_marks(CHAIN, Word(H), 0, (0, 1))[2]
        wrongs = no_strings() + ["", "101110101", list(right), right[:-1], right + (1,), (), dict(enumerate(right))]
        for at in range(len(right)):
            for value in (True, False, None, 2, -1, "1", [1], (1,), 10 ** 50, H, "a"):
                wrongs.append(right[:at] + (value,) + right[at + 1:])
        for value in wrongs:
            self.assertEqual(told_index(self, CHAIN, [RESET, ("scan", Word(H), right), RESET, ("scan", Word(H), value)]), 3)

    def test_digits_of_the_frame(self):
        frame = Frame(Driver("a"), top=3)
        chain = Chain(frame, ["a"])
        self.assertEqual(Scans(chain, [RESET, ("scan", Word(frame), (3, 0, 3, 0, 3))]).kept, (0,))
        self.assertEqual(told_index(self, chain, [RESET, ("scan", Word(frame), (3, 0, 4, 0, 3))]), 1)
        self.assertEqual(told_index(self, chain, [RESET, ("scan", Word(frame), (1, 0, 1, 0, 1))]), 1)

    def chains(self):
        for top in (1, 2):
            for ground in (False, True):
                frame = Frame(Driver("a"), top=top, ground=ground)
                yield Chain(frame, ["a"], []), frame

    def test_all_heads_and_marks(self):
        # (a), and what is told of a single scan.
        right = 0
        for chain, frame in self.chains():
            for looks in itertools.product(range(frame.top + 1), repeat=6):
                digits = (*looks[4:], *looks[2:4], frame.top, *looks[:2])
                deeds = [RESET, ("scan", Word(frame), digits)]
                index = wrong_index(chain, deeds)
                if index is None:
                    right += 1
                    Scans(chain, deeds)
                else:
                    self.assertEqual(told_index(self, chain, deeds), index)
        # Sound, lifted over each link; and capped at 0 over each link if there is ground.
        self.assertEqual(right, 4 * (1 + 3) + 2 * 3)

    def test_all_rows_of_heads(self):
        # (b) to (e): all rows of four deeds, scans that are fine by themselves.
        for chain, frame in self.chains():
            heads = [(0, level) for level in range(frame.top + 1)] + [(frame.top, frame.top)]
            deeds = [RESET] + [two_marks(chain, Word(frame, a=0), link, head) for head in heads for link in (0, 2) if head != (0, frame.top) or link == 0]
            told = set()
            for row in itertools.product(deeds, repeat=4):
                index = wrong_index(chain, (RESET, *row))
                told.add(index)
                if index is None:
                    Scans(chain, (RESET, *row))
                else:
                    self.assertEqual(told_index(self, chain, (RESET, *row)), index)
            self.assertLessEqual({None, 2, 3, 4}, told)

    def test_each_way(self):
        frame = Frame(Driver("a"), top=2, ground=True)
        bare = Frame(Driver("a"), top=2)
        for chain in (Chain(frame, ["a"], []), Chain(bare, ["a"], [])):
            word = Word(chain.frame, a=1)
            sound, lifted, low, high = [two_marks(chain, word, 1, head) for head in ((0, 2), (2, 2), (0, 0), (0, 1))]
            low_0, high_2, lifted_2 = two_marks(chain, word, 0, (0, 0)), two_marks(chain, word, 2, (0, 1)), two_marks(chain, word, 2, (2, 2))
            rows = [
                ([sound, high_2, low], 3), ([sound, low_0, sound, low_0, sound, low], 6), ([lifted, RESET, lifted_2], 3),
                ([lifted, sound], 2), ([sound, lifted], 2), ([sound, low, lifted], 3), ([lifted, low], 2),
                ([high], 1), ([RESET, high], 2), ([sound, RESET, high], 3), ([sound, RESET, low], 3), ([sound, low, RESET, low], 4),
            ]
            if chain.frame.ground:
                rows += [([low, high], 2), ([low, sound], 2), ([low, RESET, sound], 3), ([low, lifted], 2), ([low, RESET, low, low_0], 4)]
                self.assertEqual(Scans(chain, [RESET, low, low, RESET, low]).kind, "ground")
            else:
                rows += [([low], 1)]
            self.assertEqual(Scans(chain, [RESET, sound, low, high, sound, high]).kind, "joined")
            self.assertEqual(Scans(chain, [RESET, lifted, RESET, lifted, lifted]).kind, "lifted")
            for row, index in rows:
                self.assertEqual(wrong_index(chain, [RESET, *row]), index)
                self.assertEqual(told_index(self, chain, [RESET, *row]), index)

    def changed(self, random_one, chain, deeds):
        """The deeds with something changed by chance."""
        deeds = list(deeds)
        at = random_one.randrange(len(deeds))
        kind = random_one.random()
        if kind < 0.3:
            deeds.insert(at, RESET)
        elif kind < 0.5 and deeds[at] == RESET:
            del deeds[at]
        elif deeds[at] != RESET:
            digits = list(deeds[at][2])
            for _ in range(random_one.randint(1, 2)):
                digits[random_one.randrange(-4, 0)] = random_one.randint(0, chain.frame.top)
            deeds[at] = ("scan", deeds[at][1], tuple(digits))
        return deeds

    def test_changed_deeds(self):
        random_one = random.Random(183)
        told = {}
        for frame, parts, blocks, hurt, bench in benches(184, 1200, most=5, deeds=9):
            chain = Chain.of(frame, parts)
            deeds = list(bench.deeds)
            for _ in range(random_one.randint(0, 3)):
                deeds = self.changed(random_one, chain, deeds) if deeds else deeds
            index = wrong_index(chain, deeds)
            told[index] = told.get(index, 0) + 1
            if index is None:
                Scans(chain, deeds)
            else:
                self.assertEqual(told_index(self, chain, deeds), index, deeds)
        self.assertGreater(told[None], 100)
        self.assertGreater(len(told), 6)

    def test_deeds_of_two_benches(self):
        random_one = random.Random(185)
        told = {}
        for _ in range(500):
            frame = some_frame(random_one, 5)
            parts = some_parts(random_one, frame)
            deeds = []
            for _ in range(random_one.randint(1, 3)):
                bench = make_bench(frame, parts, random_one.choice(plain_boards(frame)), random_one.choice(all_hurts(frame, parts)))
                do_deeds(random_one, bench, frame, random_one.randint(0, 5))
                deeds += bench.deeds[random_one.random() < 0.3 and len(deeds) > 0:]
            chain = Chain.of(frame, parts)
            index = wrong_index(chain, deeds)
            told[index] = told.get(index, 0) + 1
            if index is None:
                Scans(chain, deeds)
            else:
                self.assertEqual(told_index(self, chain, deeds), index)
        self.assertGreater(told[None], 50)
        self.assertGreater(500 - told[None], 50)

    def test_deeds_of_other_chains(self):
        bench = Bench(CHAIN, Board(H), Hurt(1, "a"))
        bench.scan(Word(H, a=0))
        bench.scan(Word(H, b=0))
        for chain in (Chain(H, ["a", "b"], ["c"], []), Chain(H, ["a", "b", "c"]), Chain(Frame(*H.legs, ground=True), ["a", "b"], ["c"])):
            self.assertEqual(told_index(self, chain, bench.deeds), 1)
        self.assertEqual(Scans(Chain(Frame(*H.legs[::-1]), ["a", "b"], ["c"]), bench.deeds).caps, (1, 0))


class Many(unittest.TestCase):
    def test_more_than_sixty_kept_scans(self):
        bench = Bench(CHAIN, Board(H), Hurt(1, "a"))
        while len([deed for deed in bench.deeds if deed[0] == "scan" and deed[2][-1] == 1]) < 60:
            bench.scan(Word(H, a=len(bench.deeds) % 2))
        scans = Scans(CHAIN, bench.deeds)
        self.assertEqual(len(scans.kept), 60)
        self.assertEqual(len(scans.table), 60)
        self.assertGreater(len(scans.held), 100)
        spoiled = len(scans.held) - 60
        self.assertGreater(spoiled, 40)
        bench.reset()
        bench.scan(Word(H))
        with self.assertRaises(TooMany) as caught:
            Scans(CHAIN, bench.deeds)
        self.assertEqual(caught.exception.most, 60)
        # What is wrong is told ahead of what is too much.
        self.assertEqual(told_index(self, CHAIN, bench.deeds + (None,)), len(bench.deeds))

    def test_spoiled_scans_do_not_count(self):
        frame = Frame(Driver("a"), ground=True, power=True)
        chain = Chain(frame, ["a"])
        for hurt, kind in ((Hurt(1, "ground"), "ground"), (Hurt(0, "power"), "lifted"), (Hurt(0, "nothing"), "lifted")):
            bench = Bench(chain, Board(frame), hurt)
            for at in range(200):
                bench.scan(Word(frame, a=at % 2))
            scans = Scans(chain, bench.deeds)
            self.assertEqual((scans.kind, scans.kept, len(scans.caps), scans.table), (kind, (), 200, None))


if __name__ == "__main__":
    unittest.main()
