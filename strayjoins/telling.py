"""Tables that tell all: whatever board is there, the verdict of its answers is settled."""

from strayjoins.asking import at_once
from strayjoins.errors import TooMany
from strayjoins.names import up
from strayjoins.sides import word_indexes
from strayjoins.tables import Table
from strayjoins.verdicts import Verdict

MOST_DRIVERS = 8


def tells_all(table):
    """A tree if the table tells all, otherwise two sets of drivers that it does not tell apart."""
    names = table.frame.drivers
    if len(names) > MOST_DRIVERS:
        raise TooMany(MOST_DRIVERS)
    unmoved = unmoved_drivers(table)
    if unmoved:
        return ("twins", unmoved[:1], ())
    found = alike_sets([table.driven(name) for name in names])
    if found:
        one, other = [tuple([names[at] for at in word_indexes(drivers)]) for drivers in found]
        return ("twins", one, other)
    words = [level_sets(names, word) for word in table.words]
    return ("all", telling_tree(names, words, 0, 0, (1 << len(names)) - 1))


def unmoved_drivers(table):
    """The drivers at top at each word, if there is what can be joined with them without a sign of it."""
    frame = table.frame
    if not frame.listeners and not frame.power:
        return ()
    return tuple([name for name in frame.drivers if min(table.driven(name)) == frame.top])


def alike_sets(rows):
    """Two sets of drivers, none in both, with the same least levels in these rows; () if there are none.

    A number stands for a set of drivers: it has the bit 1 << at for the driver of each row.
    """
    least = {}
    alike = {}
    for drivers in range(1, 1 << len(rows)):
        at = drivers.bit_length() - 1
        others = drivers & ~(1 << at)
        levels = tuple([min(pair) for pair in zip(rows[at], least.get(others, rows[at]))])
        least[drivers] = levels
        apart = [found for found in alike.get(levels, []) if not found & drivers]
        if apart:
            return (apart[0], drivers)
        alike.setdefault(levels, []).append(drivers)
    return ()


def level_sets(names, word):
    """For each level the set of the drivers that a word drives at it."""
    return [
        sum([1 << at for at, name in enumerate(names) if word[name] == level])
        for level in range(word.frame.top + 1)
    ]


def telling_tree(names, words, first, second, left):
    """A tree for the drivers on two sides and those that are not placed, where the words tell all sides apart."""
    if left == 0 and 0 in (first, second):
        return ("end",)
    there = first | second | left
    lowest = [[drivers & there for drivers in levels if drivers & there][0] for levels in words]
    telling = [index for index, drivers in enumerate(lowest) if drivers & ~first == 0 or drivers & ~second == 0]
    if telling:
        return ("word", telling[0])
    at = deciding_driver(lowest, first, second, left)
    driver = 1 << at
    left = left & ~driver
    return (
        "leg", names[at],
        telling_tree(names, words, first | driver, second, left),
        telling_tree(names, words, first, second | driver, left) if first or second else None,
        telling_tree(names, words, first, second, left),
    )


def deciding_driver(lowest, first, second, left):
    """The driver to place next: one on which a word hangs that needs few more drivers to tell the sides apart."""
    # There is such a word: otherwise the sides would be alike at each word.
    hanging = [word_indexes(drivers & left) for drivers in lowest if drivers & first == 0 or drivers & second == 0]
    return min([(len(drivers), drivers) for drivers in hanging])[1][0]


def fewest_words(frame):
    """How many words a table that tells all has at least behind the rest word."""
    drivers = len(frame.drivers)
    others = 1 if frame.listeners or frame.power else 0
    return up(drivers - 1 + others, frame.top) if drivers else 0


def fewest_table(frame):
    """A table that tells all with the fewest words."""
    # What settles the verdict of the rest word, when nothing was driven below top yet, tells all.
    verdict = Verdict(Table(frame), [{name: frame.top for name in frame.names}])
    return Table.of(frame, at_once(verdict))
