"""Words: the levels at which the drivers of a frame are driven."""

from strayjoins.errors import InvalidWord, NoLeg
from strayjoins.frames import is_driver
from strayjoins.names import is_between


class Word:
    """A level for each driver of a frame."""

    def __init__(self, frame, **levels):
        self.frame = frame
        self._levels = driver_levels(frame, levels)

    @classmethod
    def of(cls, frame, levels):
        # Not by **levels: a driver may be called frame or self.
        checked = driver_levels(frame, levels)
        word = cls(frame)
        word._levels = checked
        return word

    @classmethod
    def rest(cls, frame):
        return cls(frame)

    @classmethod
    def lone(cls, frame, name, level=0):
        # Any value may be passed as the name, also one that cannot be a key.
        if not is_driver(frame, name):
            raise InvalidWord(name)
        return cls.of(frame, {name: level})

    @property
    def low(self):
        """The drivers that are driven below top."""
        return tuple([name for name, level in self._levels.items() if level < self.frame.top])

    def __getitem__(self, at):
        if at in self.frame:
            return self._levels.get(at, self.frame.top)
        if at not in self.frame.rails:
            raise NoLeg(at)
        return 0 if at == "ground" else self.frame.top

    def __iter__(self):
        raise TypeError("a word is not iterated over")

    def __bool__(self):
        return bool(self.low)

    def __eq__(self, other):
        return isinstance(other, Word) and self.frame == other.frame and self._levels == other._levels

    def __and__(self, other):
        if not is_word_of(self.frame, other):
            raise InvalidWord(None)
        both = Word(self.frame)
        both._levels = {name: min(level, other._levels[name]) for name, level in self._levels.items()}
        return both

    def __str__(self):
        driven = [f"{name}={self._levels[name]}" for name in self.low]
        return " ".join(driven or ["rest"])

    def __repr__(self):
        return f"Word({self})"


def driver_levels(frame, levels):
    """The level of each driver, by name; raises InvalidWord if levels tell no word."""
    if not isinstance(levels, dict) or not all([isinstance(name, str) for name in levels]):
        raise InvalidWord(None)
    for name in sorted(levels):
        if not is_driver(frame, name) or not is_between(levels[name], 0, frame.top):
            raise InvalidWord(name)
    return {name: levels.get(name, frame.top) for name in frame.drivers}


def is_word_of(frame, value):
    """Whether any value is a word of an equal frame."""
    return isinstance(value, Word) and value.frame == frame
