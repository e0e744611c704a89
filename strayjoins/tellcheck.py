"""Whether a value shows that a table tells all, or that it does not. Nothing is searched."""

from strayjoins.frames import is_driver
from strayjoins.names import is_between
from strayjoins.telling import unmoved_drivers

# The places of a driver on a side, in the order of the branches of a tree; behind them comes neither.
FIRST = 0
SECOND = 1


def shows_telling(table, thing):
    """Whether any value is a tuple as tells_all returns it for the table."""
    if not isinstance(thing, tuple) or len(thing) == 0:
        return False
    if thing[0] == "all":
        return len(thing) == 2 and not unmoved_drivers(table) and is_telling_tree(table, {}, thing[1])
    return thing[0] == "twins" and len(thing) == 3 and are_alike(table, thing[1], thing[2])


def are_alike(table, one, other):
    """Whether these values are two sets of drivers that the table does not tell apart."""
    if not is_driver_set(table.frame, one) or not is_driver_set(table.frame, other):
        return False
    if other == ():
        return len(one) == 1 and one[0] in unmoved_drivers(table)
    if any([name in other for name in one]):
        return False
    return all([least_level(word, one) == least_level(word, other) for word in table.words])


def is_driver_set(frame, value):
    """Whether any value is an ascending tuple of drivers."""
    if not isinstance(value, tuple) or not all([is_driver(frame, name) for name in value]):
        return False
    return value == tuple(sorted(set(value)))


def least_level(word, names):
    """The least level at which a word drives one of these drivers; above top for none of them."""
    return min([word[name] for name in names], default=word.frame.top + 1)


def is_telling_tree(table, places, tree):
    """Whether any value is a tree for these places of some drivers; the other ones are not placed."""
    if not isinstance(tree, tuple) or len(tree) == 0:
        return False
    if tree[0] == "word":
        return len(tree) == 2 and is_between(tree[1], 0, len(table) - 1) and is_telling(table[tree[1]], places)
    taken = list(places.values())
    if tree[0] == "end":
        return len(tree) == 1 and len(places) == len(table.frame.drivers) and SECOND not in taken
    if tree[0] != "leg" or len(tree) != 5 or not is_driver(table.frame, tree[1]) or tree[1] in places:
        return False
    for place, branch in enumerate(tree[2:]):
        if place == SECOND and FIRST not in taken:
            # Both sides are empty, and so alike: the first driver on a side is on the first one.
            if branch is not None:
                return False
        elif not is_telling_tree(table, {**places, tree[1]: place}, branch):
            return False
    return True


def is_telling(word, places):
    """Whether a word drives a driver of one side lower than all of the other side and all that are not placed."""
    left = [name for name in word.frame.drivers if name not in places]
    sides = [[name for name, place in places.items() if place == side] for side in (FIRST, SECOND)]
    levels = [least_level(word, names) for names in sides]
    return levels[0] != levels[1] and min(levels) < least_level(word, left)
