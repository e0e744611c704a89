"""The legs of a frame."""

from strayjoins.errors import InvalidFrame
from strayjoins.names import is_name


class Leg:
    """A leg with a name; a frame takes only a Driver or a Listener."""

    KIND = "leg"

    def __init__(self, name):
        if not is_name(name):
            raise InvalidFrame("name")
        self.name = name

    @property
    def drives(self):
        return False

    def __eq__(self, other):
        return isinstance(other, Leg) and self.KIND == other.KIND and self.name == other.name

    def __str__(self):
        return f"leg {self.name}"

    def __repr__(self):
        return f"Leg({self.name})"


class Driver(Leg):
    """A leg that its part drives at a level."""

    KIND = "driver"

    def __init__(self, name):
        super().__init__(name)

    @property
    def drives(self):
        return True

    def __eq__(self, other):
        return isinstance(other, Driver) and self.name == other.name

    def __str__(self):
        return f"driver {self.name}"

    def __repr__(self):
        return f"Driver({self.name})"


class Listener(Leg):
    """A leg that only listens."""

    KIND = "listener"

    def __init__(self, name):
        super().__init__(name)

    @property
    def drives(self):
        return False

    def __eq__(self, other):
        return isinstance(other, Listener) and self.name == other.name

    def __str__(self):
        return f"listener {self.name}"

    def __repr__(self):
        return f"Listener({self.name})"
