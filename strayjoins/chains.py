"""Chains: the row of cells through which words and answers travel; and hurt links of a chain."""

from strayjoins.errors import InvalidChain, InvalidHurt, NoLeg
from strayjoins.frames import is_driver
from strayjoins.names import RESERVED, is_between, is_name
from strayjoins.words import Word


class Chain:
    """The legs of a frame, parted into parts, each with its cells in a told order."""

    MOST = 8

    def __init__(self, frame, *parts):
        reason = wrong_parts(frame, parts)
        if reason is not None:
            raise InvalidChain(reason)
        self.frame = frame
        self.parts = tuple([tuple(part) for part in parts])

    @classmethod
    def of(cls, frame, parts):
        if not isinstance(parts, (list, tuple)):
            raise InvalidChain("parts")
        return cls(frame, *parts)

    @property
    def cells(self):
        """For each cell the name of its leg, or what its mark cell takes."""
        marks = (0, self.frame.top)
        return tuple([cell for part in self.parts for cell in (*part, *marks)])

    def part_of(self, name):
        """The number of the part of a leg."""
        if name not in self.frame:
            raise NoLeg(name)
        return [number for number, part in enumerate(self.parts) if name in part][0]

    def entering(self, word):
        """The digits that enter for a word: the head, then those for the cells, the last cell first."""
        top = self.frame.top
        digits = [word[cell] if isinstance(cell, str) else top for cell in self.cells]
        return (0, top, *digits[::-1])

    def arrived(self, digits):
        """The word that is held if these digits are in the cells."""
        levels = {cell: digit for cell, digit in zip(self.cells, digits) if is_driver(self.frame, cell)}
        return Word.of(self.frame, levels)

    def __len__(self):
        return len(self.parts)

    def __eq__(self, other):
        return isinstance(other, Chain) and self.frame == other.frame and self.parts == other.parts


class Hurt:
    """A link of a chain that is joined with an element, or broken."""

    def __init__(self, link, name):
        if not is_between(link, 0, Chain.MOST):
            raise InvalidHurt("link")
        if not is_name(name) and name not in RESERVED:
            raise InvalidHurt("name")
        self._link = link
        self.name = name

    @property
    def link(self):
        return self._link

    def __eq__(self, other):
        return isinstance(other, Hurt) and self._link == other._link and self.name == other.name

    def __str__(self):
        return f"link {self._link} {self.name}"


def wrong_parts(frame, parts):
    """The first reason why these values make no chain, None if there is none."""
    if not 1 <= len(parts) <= Chain.MOST or not all([isinstance(part, (list, tuple)) for part in parts]):
        return "parts"
    names = [name for part in parts for name in part]
    if not all([name in frame for name in names]):
        return "name"
    if len(set(names)) < len(names):
        return "twice"
    if len(names) < len(frame):
        return "legs"
    return None
