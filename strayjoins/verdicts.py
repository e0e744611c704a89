"""Verdicts: which elements are together, apart or open on the boards that fit."""

from strayjoins.boards import Board
from strayjoins.cases import tree_of
from strayjoins.errors import TooMany
from strayjoins.parts import class_bundles, class_parts, search_size
from strayjoins.readings import Readings
from strayjoins.sides import begun_sides

MOST_NAMES = 3


class Verdict(Readings):
    """What a table with answers tells about each two elements."""

    MOST = 1024

    def __init__(self, table, answers):
        super().__init__(table, answers)
        if any([search_size(makers) > Verdict.MOST for makers in self._makers.values()]):
            raise TooMany(Verdict.MOST)
        # Power and the locked legs cannot be parted; all else of the idle class can.
        self._fixed = tuple([name for name in self._idle if name == "power" or name in self._locked])
        found = self._idle_parts()
        for block in self._busy_classes():
            found.extend(class_bundles(block, self._makers[block]))
        self._bundles = tuple(sorted(found))
        self._bundle_of = {name: bundle for bundle in self._bundles for name in bundle}

    @property
    def bundles(self):
        return self._bundles

    @property
    def settled(self):
        spread = len(self._mute) + (1 if len(self._idle) > len(self._mute) else 0)
        return spread <= 1 and all([block in self._bundles for block in self._busy_classes()])

    @property
    def board(self):
        """The board that fits with each class in one block, but the idle class in as many as can be."""
        blocks = self._idle_parts() + self._busy_classes()
        return Board(self._table.frame, *blocks)

    def says(self, one, other):
        """How two elements stand: together, apart or open."""
        if self.class_of(one) != self.class_of(other):
            return "apart"
        return "together" if one in self._bundle_of[other] else "open"

    def bundle(self, name):
        """The bundle of an element."""
        # For what is no element this raises NoLeg.
        self.class_of(name)
        return self._bundle_of[name]

    def open_pairs(self):
        """The open pairs, ascending."""
        members = self._table.frame.members
        for at, one in enumerate(members):
            for other in members[at + 1:]:
                if self.says(one, other) == "open":
                    yield (one, other)

    def parted(self, *names):
        """A board that fits on which these elements are all apart; None if there is none."""
        homes = [self.class_of(name) for name in names]
        if len(set(names)) < len(names):
            return None
        blocks = []
        for block in self._classes:
            parts = self._parts_with(block, [name for name, home in zip(names, homes) if home == block])
            if parts is None:
                return None
            blocks.extend(parts)
        return Board(self._table.frame, *blocks)

    def paper(self, one, other):
        """A certificate of what the verdict says of two elements."""
        said = self.says(one, other)
        if one == other:
            return ("same",)
        if said == "apart":
            return ("apart", self._first_difference(one, other))
        if said == "open":
            return ("open", self.board | Board(self._table.frame, [one, other]), self.parted(one, other))
        if one in self._idle:
            return ("locked", self._first_low(one), self._first_low(other))
        return ("together", self.cases(one, other))

    def cases(self, *names):
        """A tree of cases that shows that these elements cannot be all apart; None if there is none."""
        homes = [self.class_of(name) for name in names]
        if len(names) > MOST_NAMES:
            raise TooMany(MOST_NAMES)
        if len(names) < 2 or len(set(names)) < len(names):
            return None
        if any([home != homes[0] for home in homes]) or homes[0] == self._idle:
            return None
        if self._parts_with(homes[0], names) is not None:
            return None
        return tree_of(begun_sides(self._makers[homes[0]], names))

    def _busy_classes(self):
        """The classes that are not idle."""
        return [block for block in self._classes if block != self._idle]

    def _idle_parts(self):
        """The idle class in as many blocks as can be."""
        fixed = [self._fixed] if self._fixed else []
        return fixed + [(name,) for name in self._idle if name not in self._fixed]

    def _parts_with(self, block, firsts):
        """The blocks of a class on a board that fits, these elements apart; None if they cannot be."""
        if block == self._idle:
            return self._idle_parts() if len([name for name in firsts if name in self._fixed]) <= 1 else None
        return [block] if len(firsts) < 2 else class_parts(block, self._makers[block], firsts)

    def _first_difference(self, one, other):
        """The first word at which two elements of different classes read differently."""
        levels = self._levels[other]
        return [index for index, level in enumerate(self._levels[one]) if level != levels[index]][0]

    def _first_low(self, name):
        """The first word at which an element is driven below top, None if there is none."""
        low = [index for index, level in enumerate(self._table.driven(name)) if level < self._table.frame.top]
        return low[0] if low else None
