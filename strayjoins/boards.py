"""Boards: which elements of a frame are joined, and what they read."""

from strayjoins.errors import InvalidBoard, NoLeg, TooMany
from strayjoins.frames import is_member

MOST_LISTED = 7


class Board:
    """The elements of a frame, parted into blocks."""

    def __init__(self, frame, *blocks):
        reason = wrong_blocks(frame, blocks)
        if reason is not None:
            raise InvalidBoard(reason)
        self.frame = frame
        named = [name for block in blocks for name in block]
        alone = [(name,) for name in frame.members if name not in named]
        self._blocks = tuple(sorted([tuple(sorted(block)) for block in blocks] + alone))
        self._homes = {name: block for block in self._blocks for name in block}

    @classmethod
    def of(cls, frame, blocks):
        if not isinstance(blocks, (list, tuple)):
            raise InvalidBoard("blocks")
        return cls(frame, *blocks)

    @property
    def blocks(self):
        return self._blocks

    def joins(self, *names):
        """Whether these elements are in one block."""
        homes = [self[name] for name in names]
        return all([home == homes[0] for home in homes])

    def reads(self, word, name):
        """What an element reads while the word is held."""
        return block_level(self[name], word)

    def answering(self, *words):
        """The answers to these words."""
        for word in words:
            yield self(word)

    def within(self, other):
        """Whether all that is joined here is joined on the other board."""
        if not is_board_of(self.frame, other):
            raise InvalidBoard("frame")
        return all([other.joins(*block) for block in self._blocks])

    def __call__(self, word):
        levels = {}
        for block in self._blocks:
            level = block_level(block, word)
            for name in block:
                levels[name] = level
        return {name: levels[name] for name in self.frame.names}

    def __getitem__(self, at):
        if not is_member(self.frame, at):
            raise NoLeg(at)
        return self._homes[at]

    def __iter__(self):
        raise TypeError("a board is not iterated over")

    def __len__(self):
        return len(self._blocks)

    def __eq__(self, other):
        return isinstance(other, Board) and self.frame == other.frame and self._blocks == other._blocks

    def __or__(self, other):
        if not is_board_of(self.frame, other):
            raise InvalidBoard("frame")
        blocks = joined_blocks(self._blocks, other._blocks)
        return Board(self.frame, *blocks)

    def __sub__(self, other):
        if not is_member(self.frame, other):
            raise NoLeg(other)
        left = [[name for name in block if name != other] for block in self._blocks]
        blocks = [block for block in left if block]
        return Board(self.frame, *blocks)

    def __str__(self):
        named = [" ".join(block) for block in self._blocks if len(block) > 1]
        return " ".join([f"({names})" for names in named] or ["-"])

    def __repr__(self):
        return f"Board({self})"


def wrong_blocks(frame, blocks):
    """The first reason why these values make no board, None if there is none."""
    if not all([isinstance(block, (list, tuple)) and len(block) > 0 for block in blocks]):
        return "blocks"
    names = [name for block in blocks for name in block]
    if not all([is_member(frame, name) for name in names]):
        return "name"
    if len(set(names)) < len(names):
        return "twice"
    if any(["ground" in block and "power" in block for block in blocks]):
        return "rails"
    return None


def is_board_of(frame, value):
    """Whether any value is a board of an equal frame."""
    return isinstance(value, Board) and value.frame == frame


def block_level(block, word):
    """What the members of a block read while the word is held."""
    if "power" in block:
        return word.frame.top
    return min([word[name] for name in block])


def joined_blocks(blocks, more):
    """The blocks, joined where one of the further blocks meets several of them."""
    found = list(blocks)
    for block in more:
        met = [old for old in found if any([name in block for name in old])]
        merged = tuple([name for old in met for name in old])
        found = [old for old in found if old not in met] + [merged]
    return found


def partings(names):
    """All ways to part these names into blocks."""
    if len(names) == 0:
        yield []
        return
    first = names[0]
    for blocks in partings(names[1:]):
        yield [[first], *blocks]
        for at, block in enumerate(blocks):
            yield [*blocks[:at], [first, *block], *blocks[at + 1:]]


def every_board(frame):
    """All boards of a frame with few elements."""
    if len(frame.members) > MOST_LISTED:
        raise TooMany(MOST_LISTED)
    for blocks in partings(frame.members):
        if wrong_blocks(frame, blocks) is None:
            yield Board(frame, *blocks)
