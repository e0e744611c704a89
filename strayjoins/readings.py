"""Readings: the classes of a table with answers, and whether some board gives these answers."""

from strayjoins.errors import InvalidAnswer, NoBoard, NoLeg, NoWord
from strayjoins.frames import is_member
from strayjoins.names import is_between


class Readings:
    """A table with answers that some board gives."""

    def __init__(self, table, answers):
        self._answers = checked_answers(table, answers)
        self._table = table
        members = table.frame.members
        driven = {name: table.driven(name) for name in members}
        self._levels = read_levels(table.frame, self._answers, driven)
        top = table.frame.top
        self._classes = alike_read(self._levels)
        self._homes = {name: block for block in self._classes for name in block}
        self._idle = tuple([name for name in members if min(self._levels[name]) == top])
        self._locked = tuple([name for name in self._idle if min(driven[name]) < top])
        drivers = table.frame.drivers
        self._mute = tuple([name for name in self._idle if name in drivers and name not in self._locked])
        self._makers = {block: makers_of(block, self._levels, driven, top) for block in self._classes}
        excepted = self._locked if table.frame.power else ()
        faults = too_high(self._levels, driven, excepted) + unmade(self._makers)
        if faults:
            index, name = min(faults)
            raise NoBoard(index, name)

    @property
    def table(self):
        return self._table

    @property
    def answers(self):
        return [dict(answer) for answer in self._answers]

    @property
    def classes(self):
        return self._classes

    @property
    def idle(self):
        return self._idle

    @property
    def locked(self):
        return self._locked

    @property
    def mute(self):
        return self._mute

    def levels(self, name):
        """The levels that an element reads, one for each word."""
        block = self.class_of(name)
        return self._levels[block[0]]

    def class_of(self, name):
        """The class of an element."""
        if not is_member(self._table.frame, name):
            raise NoLeg(name)
        return self._homes[name]

    def marked(self, name):
        """The words at which the class of an element reads below top."""
        return tuple(self._makers[self.class_of(name)])

    def makers(self, name, index):
        """The makers of a word in the class of an element."""
        block = self.class_of(name)
        if not is_between(index, 0, len(self._table) - 1):
            raise NoWord(index)
        return self._makers[block].get(index, ())

    def is_cover(self, names):
        """Whether any value names a cover of a class that is not idle."""
        block = class_of_all(self, names)
        if block == ():
            return False
        return all([any([name in makers for name in names]) for makers in self._makers[block].values()])

    def fits(self, board):
        """Whether a board of the frame gives these answers."""
        return self._table.answers_of(board) == self._answers


def class_of_all(readings, names):
    """The class that is not idle and holds all of these different names, any value; () if there is none."""
    if not isinstance(names, (list, tuple)) or len(names) == 0:
        return ()
    if not all([is_member(readings.table.frame, name) for name in names]):
        return ()
    block = readings.class_of(names[0])
    if block == readings.idle or len(set(names)) < len(names):
        return ()
    return block if all([name in block for name in names]) else ()


def class_makers(readings, block):
    """The makers of each marked word of a class."""
    return {index: readings.makers(block[0], index) for index in readings.marked(block[0])}


def checked_answers(table, answers):
    """A copy of the answers; raises InvalidAnswer if they are no answers to the table."""
    names = table.frame.names
    if not isinstance(answers, (list, tuple)) or len(answers) != len(table):
        raise InvalidAnswer(None, None)
    for index, answer in enumerate(answers):
        if not isinstance(answer, dict) or len(answer) != len(names):
            raise InvalidAnswer(index, None)
        if not all([name in answer for name in names]):
            raise InvalidAnswer(index, None)
    for index, answer in enumerate(answers):
        for name in names:
            if not is_between(answer[name], 0, table.frame.top):
                raise InvalidAnswer(index, name)
    return [{name: answer[name] for name in names} for answer in answers]


def read_levels(frame, answers, driven):
    """What each element reads, word by word; a rail reads what it is driven at."""
    levels = {name: driven[name] for name in frame.rails}
    for name in frame.names:
        levels[name] = tuple([answer[name] for answer in answers])
    return levels


def alike_read(levels):
    """The classes: the elements that read the same at each word."""
    groups = {}
    for name in sorted(levels):
        groups.setdefault(levels[name], []).append(name)
    return tuple(sorted([tuple(group) for group in groups.values()]))


def makers_of(block, levels, driven, top):
    """The makers of each marked word of a class."""
    reads = levels[block[0]]
    marked = [index for index, level in enumerate(reads) if level < top]
    return {index: tuple([name for name in block if driven[name][index] == reads[index]]) for index in marked}


def too_high(levels, driven, excepted):
    """The faults of the elements that read a greater level than they are driven at."""
    return [
        (index, name)
        for name, row in levels.items() if name not in excepted
        for index, level in enumerate(row) if level > driven[name][index]
    ]


def unmade(makers):
    """The faults of the classes with a marked word that has no maker."""
    return [
        (index, block[0])
        for block, rows in makers.items()
        for index, names in rows.items() if not names
    ]
