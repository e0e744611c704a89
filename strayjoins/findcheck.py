"""Whether a value shows that a table finds every fault of a board, or that it does not. Nothing is searched."""

from strayjoins.boards import is_board_of
from strayjoins.errors import InvalidBoard
from strayjoins.finding import shown_classes
from strayjoins.readings import Readings
from strayjoins.verdictcheck import shows_never_apart


def shows_finding(table, wires, thing):
    """Whether any value is a tuple as finds returns it for the table and wires."""
    if not is_board_of(table.frame, wires):
        raise InvalidBoard("frame")
    if not isinstance(thing, tuple) or len(thing) != 2:
        return False
    if thing[0] == "missed":
        return is_missed(table, wires, thing[1])
    # Not a Verdict, which would search, and may raise TooMany.
    return thing[0] == "all" and are_class_trees(Readings(table, table.answers_of(wires)), thing[1])


def is_missed(table, wires, value):
    """Whether any value is another board that gives the same answers as wires."""
    if not is_board_of(table.frame, value) or value == wires:
        return False
    return table.answers_of(value) == table.answers_of(wires)


def are_class_trees(readings, value):
    """Whether any value is the trees that show of each class that it cannot be parted."""
    classes = shown_classes(readings)
    if can_idle_be_parted(readings) or not isinstance(value, tuple) or len(value) != len(classes):
        return False
    return all([are_pair_trees(readings, block, row) for block, row in zip(classes, value)])


def can_idle_be_parted(readings):
    """Whether the idle class has two elements that can be apart."""
    loose = [name for name in readings.idle if name != "power" and name not in readings.locked]
    return len(readings.idle) > 1 and len(loose) > 0


def are_pair_trees(readings, block, value):
    """Whether any value is a tree for the least element of a class with each other one, in order."""
    if not isinstance(value, tuple) or len(value) != len(block) - 1:
        return False
    return all([shows_never_apart(readings, (block[0], name), tree) for name, tree in zip(block[1:], value)])
