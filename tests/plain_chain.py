"""A chain that is reckoned beat by beat, as the points [18] and [19] tell it; plain values, as in brute.py."""

import random

from strayjoins.bench import Bench
from strayjoins.boards import Board
from strayjoins.chains import Chain, Hurt
from strayjoins.words import Word
from tests.brute import driven_at, plain_answer, plain_boards, some_frame


class PlainBench:
    """A board behind a chain; hurt is a pair of a link and a name, or None."""

    def __init__(self, frame, parts, blocks, hurt=None):
        self.frame, self.blocks, self.hurt, self.drivers = frame, blocks, hurt, set(frame.drivers)
        self.cells, self.firsts = [], {}
        for number, part in enumerate(parts):
            self.firsts[len(self.cells)] = number
            self.cells += [*part, 0, frame.top]
        self.last_link = len(parts)
        self.levels = {}

    def over(self, link, digit):
        """What becomes of a digit that passes a link."""
        if self.hurt is None or self.hurt[0] != link:
            return digit
        name = self.hurt[1]
        if name == "nothing":
            return self.frame.top
        block = [block for block in self.blocks if name in block][0]
        if "power" in block:
            return self.frame.top
        return min([digit] + [driven_at(self.frame, self.levels, one) for one in block])

    def scan(self, levels):
        """The digits that enter and those that leave; behind it the word of these levels is held, perhaps."""
        answer = plain_answer(self.frame, self.blocks, self.levels)
        row = [answer[cell] if isinstance(cell, str) else cell for cell in self.cells]
        entering = [0, self.frame.top]
        for cell in self.cells[::-1]:
            entering.append(levels.get(cell, self.frame.top) if cell in self.drivers else self.frame.top)
        leaving = []
        for digit in entering:
            leaving.append(self.over(self.last_link, row[-1]))
            for at in range(len(row) - 1, 0, -1):
                row[at] = self.over(self.firsts[at], row[at - 1]) if at in self.firsts else row[at - 1]
            row[0] = self.over(0, digit)
        self.levels = {cell: digit for cell, digit in zip(self.cells, row) if cell in self.drivers}
        return tuple(entering), tuple(leaving)

    def reset(self):
        self.levels = {}


def some_parts(random_one, frame, most=4):
    """The legs of a frame in some parts."""
    parts = [[] for _ in range(random_one.randint(1, most))]
    names = list(frame.names)
    random_one.shuffle(names)
    for name in names:
        random_one.choice(parts).append(name)
    return parts


def all_hurts(frame, parts):
    """No hurt link, and each one."""
    return [None] + [(link, name) for link in range(len(parts) + 1) for name in [*frame.members, "nothing"]]


def make_bench(frame, parts, blocks, hurt):
    return Bench(Chain.of(frame, parts), Board.of(frame, blocks), None if hurt is None else Hurt(*hurt))


def some_levels(random_one, frame):
    shy = random_one.random()
    return {name: random_one.randint(0, frame.top) for name in frame.drivers if random_one.random() < shy}


def do_deeds(random_one, bench, frame, many, resets=0.25):
    """Does some deeds by chance on a bench."""
    for _ in range(many):
        if random_one.random() < resets:
            bench.reset()
        else:
            bench.scan(Word.of(frame, some_levels(random_one, frame)))


def benches(seed, many, most=6, deeds=8):
    """Some rows of a frame, parts, the blocks of a board, a hurt link or None, and a bench on which deeds were done."""
    random_one = random.Random(seed)
    for _ in range(many):
        frame = some_frame(random_one, most)
        parts = some_parts(random_one, frame)
        blocks = random_one.choice(plain_boards(frame))
        hurt = random_one.choice(all_hurts(frame, parts)) if random_one.random() < 0.9 else None
        bench = make_bench(frame, parts, blocks, hurt)
        do_deeds(random_one, bench, frame, random_one.randint(0, deeds))
        yield frame, parts, blocks, hurt, bench


def looked_at(parts, digits):
    """What of a spoiled scan is looked at: the head and the marks."""
    row, marks = list(digits[:-2]), []
    for part in parts[::-1]:
        marks.append(tuple(row[:2]))
        row = row[2 + len(part):]
    return tuple(digits[-2:]), marks


def plain_agrees(frame, parts, blocks, hurt, deeds):
    """Whether a board with a hurt link gives what is looked at of some deeds."""
    plain = PlainBench(frame, parts, blocks, hurt)
    for deed in deeds:
        if deed == ("reset",):
            plain.reset()
            continue
        digits = plain.scan({name: deed[1][name] for name in plain.drivers})[1]
        if digits[-2:] != deed[2][-2:] or looked_at(parts, digits) != looked_at(parts, deed[2]):
            return False
        if digits[-2:] == (0, frame.top) and digits != deed[2]:
            return False
    return True


def agreeing(frame, parts, deeds):
    """All pairs of the blocks of a board and a hurt link, or None, that agree with some deeds."""
    found = []
    for blocks in plain_boards(frame):
        links = [(link, block) for link in range(len(parts) + 1) for block in [*blocks, ("nothing",)]]
        # A link is joined with the whole block of its element.
        hurts = [(None, [None])] + [((link, block[0]), [(link, name) for name in block]) for link, block in links]
        for first, alike in hurts:
            if plain_agrees(frame, parts, blocks, first, deeds):
                found += [(blocks, hurt) for hurt in alike]
    return found
