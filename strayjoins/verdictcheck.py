"""Whether a value is a certificate of what a verdict says. Nothing is searched."""

from strayjoins.boards import is_board_of
from strayjoins.names import is_between, is_integer
from strayjoins.readings import Readings, class_makers, class_of_all


def shows_apart(readings, one, other, told):
    """Whether this is a word at which two elements read differently."""
    if len(told) != 1 or not is_between(told[0], 0, len(readings.table) - 1):
        return False
    return readings.levels(one)[told[0]] != readings.levels(other)[told[0]]


def shows_open(readings, one, other, told):
    """Whether these are two boards that fit; only the first one joins the elements."""
    if len(told) != 2 or not all([is_fitting(readings, board) for board in told]):
        return False
    joined, parted = told
    return joined.joins(one, other) and not parted.joins(one, other)


def is_fitting(readings, value):
    """Whether any value is a board that fits."""
    return is_board_of(readings.table.frame, value) and readings.fits(value)


def shows_together(readings, one, other, told):
    """Whether this is a tree of cases for two elements."""
    return len(told) == 1 and shows_never_apart(readings, (one, other), told[0])


def shows_locked(readings, one, other, told):
    """Whether these are words at which the elements, power or locked, are driven below top."""
    return len(told) == 2 and is_lock(readings, one, told[0]) and is_lock(readings, other, told[1])


def is_lock(readings, name, index):
    """Whether a locked leg is driven below top at this word, any value; for power it is None."""
    if name == "power":
        return index is None
    if name not in readings.locked or not is_between(index, 0, len(readings.table) - 1):
        return False
    return readings.table[index][name] < readings.table.frame.top


LOOKS = {"apart": shows_apart, "open": shows_open, "together": shows_together, "locked": shows_locked}


def shows(table, answers, one, other, thing):
    """Whether any value is a certificate for two elements, as Verdict.paper returns it."""
    readings = Readings(table, answers)
    for name in (one, other):
        # For what is no element this raises NoLeg.
        readings.class_of(name)
    if not isinstance(thing, tuple) or len(thing) == 0 or not isinstance(thing[0], str):
        return False
    if one == other:
        return thing == ("same",)
    look = LOOKS.get(thing[0])
    return look is not None and look(readings, one, other, thing[1:])


def shows_cases(table, answers, names, thing):
    """Whether any value is a tree of cases for the elements of a list or tuple."""
    return shows_never_apart(Readings(table, answers), names, thing)


def shows_never_apart(readings, names, tree):
    """Whether any value is a tree of cases for different elements, any values, of one class that is not idle."""
    block = class_of_all(readings, names)
    if block == ():
        return False
    sides = {name: side for side, name in enumerate(names)}
    return is_tree(block, class_makers(readings, block), len(names), sides, tree)


def is_tree(block, makers, many, sides, tree):
    """Whether any value is a tree of cases for so many sides; sides tells the side of each placed element."""
    if not isinstance(tree, tuple) or len(tree) == 0:
        return False
    if tree[0] == "word":
        return len(tree) == 2 and is_short(makers, many, sides, tree[1])
    if tree[0] != "leg" or len(tree) != 3 or tree[1] not in block or tree[1] in sides:
        return False
    if not isinstance(tree[2], tuple) or len(tree[2]) != many:
        return False
    for side, branch in enumerate(tree[2]):
        if not is_tree(block, makers, many, {**sides, tree[1]: side}, branch):
            return False
    return True


def is_short(makers, many, sides, index):
    """Whether a marked word, any value, has fewer makers that are not placed than sides without one."""
    if not is_integer(index) or index not in makers:
        return False
    placed = [sides[name] for name in makers[index] if name in sides]
    return many - len(set(placed)) > len(makers[index]) - len(placed)
