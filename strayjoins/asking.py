"""Words to ask: all at once, or the next one."""

from strayjoins.boards import Board
from strayjoins.errors import Settled
from strayjoins.names import up
from strayjoins.readings import class_makers
from strayjoins.sides import words_made
from strayjoins.spread import bounds, spread, stake
from strayjoins.words import Word


def at_once(verdict):
    """Words that settle the verdict whatever board is there."""
    frame = verdict.table.frame
    rows = [{} for _ in range(bounds(verdict).most_at_once)]
    for block in verdict.classes:
        # Each bundle but the first one gets a level below top of its own.
        for at, name in enumerate(movers(verdict, block)[1:]):
            rows[at // frame.top][name] = at % frame.top
    return tuple([Word.of(frame, levels) for levels in rows])


def next_word(verdict):
    """A word behind which the stake of each class is divided by the number of levels, rounded up."""
    if verdict.settled:
        raise Settled()
    frame = verdict.table.frame
    levels = {}
    for block in verdict.classes:
        found = movers(verdict, block)
        size = up(len(found), frame.top + 1)
        # The first bundles, as many as can be on one level, stay at top.
        for at, name in enumerate(found[size:]):
            levels[name] = frame.top - 1 - at // size
    return Word.of(frame, levels)


def movers(verdict, block):
    """A driver for each part of the stake of a class; first what cannot be driven, if that is one of them."""
    index, parts = stake(verdict, block[0])
    if block == verdict.idle:
        return [None for part in parts if part[0] not in verdict.mute] + list(verdict.mute)
    made = words_made(class_makers(verdict, block))
    firsts = [[name for name in part if made.get(name, 0) >> index & 1][0] for part in parts]
    # Alike makers side by side: a word that parts few of them leaves few kinds, and Verdict bears no more.
    return [name for _, name in sorted([(made[name], name) for name in firsts])]


def hardest(verdict):
    """A board that fits, each class of it in the parts of its spread."""
    blocks = [part for block in verdict.classes for part in spread(verdict, block[0])]
    return Board(verdict.table.frame, *blocks)
