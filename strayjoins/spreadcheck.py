"""Whether a value is a spread or a stake of a class. Nothing is searched."""

from strayjoins.names import is_integer
from strayjoins.spread import maker_bundles, spread


def shows_spread(verdict, name, thing):
    """Whether any value is some covers that part the class of an element; for the idle class, its parts."""
    block = verdict.class_of(name)
    if block == verdict.idle:
        return are_just(spread(verdict, name), thing)
    if not isinstance(thing, tuple) or not all([isinstance(part, tuple) for part in thing]):
        return False
    names = [one for part in thing for one in part]
    if not all([one in block for one in names]) or tuple(sorted(names)) != block:
        return False
    return all([part == tuple(sorted(part)) and verdict.is_cover(part) for part in thing])


def shows_stake(verdict, name, thing):
    """Whether any value is a marked word of the class of an element and the bundles that hold a maker of it."""
    marked = verdict.marked(name)
    if not isinstance(thing, tuple) or len(thing) != 2:
        return False
    if verdict.class_of(name) == verdict.idle:
        return thing[0] is None and are_just(spread(verdict, name), thing[1])
    if not is_integer(thing[0]) or thing[0] not in marked:
        return False
    return are_just(maker_bundles(verdict, verdict.makers(name, thing[0])), thing[1])


def are_just(parts, value):
    """Whether any value is a tuple of these parts, each once, in any order."""
    if not isinstance(value, tuple) or len(value) != len(parts):
        return False
    return all([part in value for part in parts])
