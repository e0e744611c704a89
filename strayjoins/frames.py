"""Frames: the legs and rails of which a board consists."""

from strayjoins.errors import InvalidFrame, NoLeg
from strayjoins.legs import Driver, Listener
from strayjoins.names import is_between


class Frame:
    """At most forty legs, the top level, and the rails."""

    MOST = 40

    def __init__(self, *legs, top=1, ground=False, power=False):
        reason = wrong_frame(legs, top, ground, power)
        if reason is not None:
            raise InvalidFrame(reason)
        by_name = {leg.name: leg for leg in legs}
        self._legs = {name: by_name[name] for name in sorted(by_name)}
        self.top = top
        self.ground = ground
        self.power = power

    @classmethod
    def of(cls, legs, *, top=1, ground=False, power=False):
        if not isinstance(legs, (list, tuple)):
            raise InvalidFrame("legs")
        return cls(*legs, top=top, ground=ground, power=power)

    @property
    def legs(self):
        return tuple(self._legs.values())

    @property
    def names(self):
        return tuple(self._legs)

    @property
    def drivers(self):
        return tuple([name for name, leg in self._legs.items() if leg.drives])

    @property
    def listeners(self):
        return tuple([name for name, leg in self._legs.items() if not leg.drives])

    @property
    def rails(self):
        there = {"ground": self.ground, "power": self.power}
        return tuple([name for name in there if there[name]])

    @property
    def members(self):
        """The names of all elements."""
        return tuple(sorted(self.names + self.rails))

    def __contains__(self, x):
        return isinstance(x, str) and x in self._legs

    def __getitem__(self, at):
        if at not in self:
            raise NoLeg(at)
        return self._legs[at]

    def __iter__(self):
        raise TypeError("a frame is not iterated over")

    def __len__(self):
        return len(self._legs)

    def __eq__(self, other):
        if not isinstance(other, Frame) or self.top != other.top or self.rails != other.rails:
            return False
        return self._legs == other._legs

    def __add__(self, other):
        legs = self.legs
        return Frame(*legs, other, top=self.top, ground=self.ground, power=self.power)

    def __sub__(self, other):
        if other not in self:
            raise NoLeg(other)
        legs = [leg for name, leg in self._legs.items() if name != other]
        return Frame(*legs, top=self.top, ground=self.ground, power=self.power)


def wrong_frame(legs, top, ground, power):
    """The first reason why these values make no frame, None if there is none."""
    if not all([isinstance(leg, (Driver, Listener)) for leg in legs]):
        return "legs"
    if len(legs) > Frame.MOST:
        return "many"
    if len({leg.name for leg in legs}) < len(legs):
        return "name"
    if not is_between(top, 1, 3):
        return "top"
    if not isinstance(ground, bool) or not isinstance(power, bool):
        return "rails"
    return None


def is_member(frame, value):
    """Whether any value is the name of an element of the frame."""
    return value in frame or value in frame.rails


def is_driver(frame, value):
    """Whether any value is the name of a driver of the frame."""
    return value in frame and frame[value].drives
