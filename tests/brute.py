"""What the document defines, found by going through all boards; for small frames.

Boards are plain here: tuples of blocks, each a tuple of names. Levels are dicts by driver.
"""

import functools
import itertools
import random

from strayjoins.frames import Frame
from strayjoins.legs import Driver, Listener
from strayjoins.tables import Table
from strayjoins.words import Word


@functools.lru_cache(maxsize=None)
def partitions(names):
    if not names:
        return [()]
    first, rest = names[0], names[1:]
    found = []
    for blocks in partitions(rest):
        found.append(tuple(sorted(blocks + ((first,),))))
        for block in blocks:
            others = tuple(other for other in blocks if other != block)
            found.append(tuple(sorted(others + (tuple(sorted((first,) + block)),))))
    return found


def plain_boards(frame):
    """The blocks of all boards of a frame."""
    return [blocks for blocks in partitions(tuple(frame.members))
            if not any("ground" in block and "power" in block for block in blocks)]


def driven_at(frame, levels, name):
    if name == "ground":
        return 0
    return levels.get(name, frame.top)


def plain_answer(frame, blocks, levels):
    """What each leg reads while the drivers are driven at these levels, top for those not named."""
    found = {}
    for block in blocks:
        legs = [name for name in block if name not in ("ground", "power")]
        if "power" in block:
            level = frame.top
        elif "ground" in block:
            level = 0
        else:
            level = min(driven_at(frame, levels, name) for name in legs)
        found.update({name: level for name in legs})
    return found


def plain_answers(frame, blocks, rows):
    """The answers to the rest word and to the words of these rows."""
    return [plain_answer(frame, blocks, levels) for levels in [{}] + list(rows)]


def joins(blocks, one, other):
    return any(one in block and other in block for block in blocks)


def all_rows(frame):
    """The levels of all words of a frame."""
    return [dict(zip(frame.drivers, levels)) for levels in itertools.product(range(frame.top + 1), repeat=len(frame.drivers))]


def levels_of(word):
    return {name: word[name] for name in word.frame.drivers}


def make_table(frame, rows):
    return Table.of(frame, [Word.of(frame, levels) for levels in rows])


def some_frame(random_one, most):
    """A frame with at most so many elements."""
    ground, power = random_one.random() < 0.35, random_one.random() < 0.4
    names = random_one.sample(["a", "b", "g", "h", "p", "q", "z"], random_one.randint(0, most - ground - power))
    legs = [Listener(name) if random_one.random() < 0.25 else Driver(name) for name in names]
    return Frame(*legs, top=random_one.choice([1, 1, 2, 3]), ground=ground, power=power)


def some_rows(random_one, frame, most):
    """Levels for some words behind the rest word."""
    rows = []
    for _ in range(random_one.randint(0, most)):
        shy = random_one.random()
        rows.append({name: random_one.randint(0, frame.top) for name in frame.drivers if random_one.random() < shy})
    return rows


def samples(seed, many, most=6, rows=4):
    """Some triples of a frame, rows of words and the blocks of a board."""
    random_one = random.Random(seed)
    for _ in range(many):
        frame = some_frame(random_one, most)
        yield frame, some_rows(random_one, frame, rows), random_one.choice(plain_boards(frame))


class Facts:
    """What the points [8], [9] and [12] to [14] define, for answers that some board gives."""

    def __init__(self, frame, rows, answers, boards=None):
        self.frame, self.rows, self.answers = frame, [{}] + list(rows), answers
        self.known_bundles = None
        if boards is None:
            boards = plain_boards(frame)
        self.fitting = [blocks for blocks in boards if plain_answers(frame, blocks, rows) == answers]
        self.levels = {name: tuple(self.reading(name, answer) for answer in answers) for name in frame.members}
        groups = {}
        for name in sorted(self.levels):
            groups.setdefault(self.levels[name], []).append(name)
        self.classes = tuple(sorted(tuple(group) for group in groups.values()))
        self.idle = tuple(groups.get((frame.top,) * len(answers), ()))
        low = [name for name in frame.drivers if any(row.get(name, frame.top) < frame.top for row in rows)]
        self.locked = tuple(name for name in self.idle if name in low)
        self.mute = tuple(name for name in self.idle if name in frame.drivers and name not in low)

    def reading(self, name, answer):
        return {"ground": 0, "power": self.frame.top}.get(name, answer.get(name))

    def class_of(self, name):
        return [block for block in self.classes if name in block][0]

    def makers(self, name):
        """The makers of each marked word of the class of an element."""
        block = self.class_of(name)
        return {
            index: tuple(one for one in block if driven_at(self.frame, self.rows[index], one) == level)
            for index, level in enumerate(self.levels[name]) if level < self.frame.top
        }

    def faults(self):
        found = []
        for name in self.frame.names:
            for index, row in enumerate(self.rows):
                spared = name in self.locked and self.frame.power
                if self.levels[name][index] > driven_at(self.frame, row, name) and not spared:
                    found.append((index, name))
        for block in self.classes:
            found += [(index, block[0]) for index, names in self.makers(block[0]).items() if not names]
        return sorted(found)

    def says(self, one, other):
        joined = [joins(blocks, one, other) for blocks in self.fitting]
        if all(joined):
            return "together"
        return "open" if any(joined) else "apart"

    def bundles(self):
        if self.known_bundles is None:
            self.known_bundles = tuple(sorted({
                tuple(other for other in self.frame.members if self.says(name, other) == "together")
                for name in self.frame.members
            }))
        return self.known_bundles

    def can_be_apart(self, names):
        pairs = [(one, other) for at, one in enumerate(names) for other in names[at + 1:]]
        return any(not any(joins(blocks, *pair) for pair in pairs) for blocks in self.fitting)

    def spread(self, block):
        if block == self.idle:
            return len(self.mute) + (len(self.idle) > len(self.mute))
        return max(len([one for one in blocks if one[0] in block]) for blocks in self.fitting)

    def bundle(self, name):
        return [bundle for bundle in self.bundles() if name in bundle][0]

    def idle_parts(self):
        others = tuple(name for name in self.idle if name not in self.mute)
        return tuple(sorted([(name,) for name in self.mute] + [others] * bool(others)))

    def stakes(self, block):
        """For each marked word the bundles that hold a maker of it; for the idle class its parts."""
        if block == self.idle:
            return {None: self.idle_parts()}
        return {index: tuple(sorted({self.bundle(name) for name in names})) for index, names in self.makers(block[0]).items()}

    def stake(self, block):
        return min(len(bundles) for bundles in self.stakes(block).values())

    def behind(self, rows, blocks):
        """What is so behind further words, if this board is there."""
        more = [plain_answer(self.frame, blocks, levels) for levels in rows]
        return Facts(self.frame, self.rows[1:] + list(rows), self.answers + more, self.fitting)

    def settled(self):
        return all(self.spread(block) <= 1 for block in self.classes)

    def shows_cases(self, names, tree):
        """Whether a value is a tree of cases for these elements of one class."""
        return shows_tree(self.class_of(names[0]), self.makers(names[0]), [(name,) for name in names], tree)


def grouped_boards(frame, rows):
    """The blocks of all boards, those together that give the same answers."""
    groups = {}
    for blocks in plain_boards(frame):
        key = tuple(tuple(sorted(answer.items())) for answer in plain_answers(frame, blocks, rows))
        groups.setdefault(key, []).append(blocks)
    return list(groups.values())


def tells_all_boards(frame, rows):
    """Whether for each board the verdict of its answers is settled."""
    return all(
        Facts(frame, rows, plain_answers(frame, boards[0], rows), boards).settled()
        for boards in grouped_boards(frame, rows)
    )


def other_boards(frame, rows, blocks):
    """The other boards with the same answers as this one."""
    return [other for boards in grouped_boards(frame, rows) if blocks in boards for other in boards if other != blocks]


def shows_tree(block, makers, sides, tree):
    placed = [name for side in sides for name in side]
    if not isinstance(tree, tuple):
        return False
    if len(tree) == 2 and tree[0] == "word":
        if type(tree[1]) is not int or tree[1] not in makers:
            return False
        names = makers[tree[1]]
        lacking = [side for side in sides if not set(side) & set(names)]
        return len(lacking) > len(set(names) - set(placed))
    if len(tree) != 3 or tree[0] != "leg" or tree[1] not in block or tree[1] in placed:
        return False
    if not isinstance(tree[2], tuple) or len(tree[2]) != len(sides):
        return False
    return all(
        shows_tree(block, makers, sides[:at] + [side + (tree[1],)] + sides[at + 1:], tree[2][at])
        for at, side in enumerate(sides)
    )
