"""Spread and stake of the classes, and what the rest costs."""

from strayjoins.names import least_power, up
from strayjoins.parts import most_parts
from strayjoins.readings import class_makers


class Bounds:
    """How many further words are needed, and how many are enough; made by bounds alone."""

    def __init__(self, top, spread_most, stake_most):
        self.least_at_once = up(spread_most - 1, top)
        self.most_at_once = up(stake_most - 1, top)
        self.least_by_turns = least_power(top + 1, spread_most)
        self.most_by_turns = least_power(top + 1, stake_most)

    def __eq__(self, other):
        if not isinstance(other, Bounds):
            return False
        if self.least_at_once != other.least_at_once or self.most_at_once != other.most_at_once:
            return False
        return self.least_by_turns == other.least_by_turns and self.most_by_turns == other.most_by_turns


def spread(verdict, name):
    """As many parts of the class of an element as can be."""
    block = verdict.class_of(name)
    if block != verdict.idle:
        parts = most_parts(block, class_makers(verdict, block))
        return tuple(sorted([tuple(sorted(part)) for part in parts]))
    others = tuple([one for one in block if one not in verdict.mute])
    return tuple(sorted([(one,) for one in verdict.mute] + ([others] if others else [])))


def stake(verdict, name):
    """The first marked word with the fewest bundles that hold a maker of it, and these bundles."""
    block = verdict.class_of(name)
    if block == verdict.idle:
        return (None, spread(verdict, name))
    rows = [(index, maker_bundles(verdict, names)) for index, names in class_makers(verdict, block).items()]
    least = min([len(bundles) for _, bundles in rows])
    return [(index, bundles) for index, bundles in rows if len(bundles) == least][0]


def maker_bundles(verdict, names):
    """The bundles that hold one of these makers, ascending."""
    return tuple(sorted({verdict.bundle(name) for name in names}))


def bounds(verdict):
    """The greatest bounds over all classes."""
    firsts = [block[0] for block in verdict.classes]
    # Without any class nothing is to be settled, as with a single part.
    spread_most = max([len(spread(verdict, name)) for name in firsts], default=1)
    stake_most = max([len(stake(verdict, name)[1]) for name in firsts], default=1)
    return Bounds(verdict.table.frame.top, spread_most, stake_most)
