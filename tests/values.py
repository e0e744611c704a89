"""Values of every kind, for arguments that may be any value."""

from strayjoins.bench import Bench
from strayjoins.boards import Board
from strayjoins.chains import Chain, Hurt
from strayjoins.desk import Desk
from strayjoins.frames import Frame
from strayjoins.hurt import HurtVerdict
from strayjoins.legs import Driver, Leg, Listener
from strayjoins.tables import Table
from strayjoins.tester import Tester
from strayjoins.words import Word


# As many names as a frame can have legs, ascending.
NAMES = ["a" + letter for letter in "abcdefghijklmnopqrstuvwxyz"] + ["b" + letter for letter in "abcdefghijklmn"]


def nested(depth):
    value = 1
    for level in range(depth):
        value = ([value], (value,), {"a": value})[level % 3]
    return value


def no_strings():
    """Values of every kind that are no strings."""
    frame = Frame(Driver("a"), Listener("b"), ground=True)
    chain = Chain(frame, ["a", "b"])
    return [
        None, True, False, 0, 1, 2, -1, 10 ** 59, -(10 ** 59),
        (), ("a",), ("a", "b"), [], ["a"], [["a"]], {}, {"a": 0}, {"a": 1}, {1: 2}, {None: 1}, {(1, "a"): []},
        nested(10), [0] * 1999, [[], {}, ()],
        Leg("a"), Driver("a"), Listener("a"), frame, Word(frame), Board(frame), Table(frame), chain,
        Hurt(0, "a"), Bench(chain, Board(frame)), HurtVerdict(chain, [("reset",)]), Tester(frame), Desk(),
    ]


def no_names():
    """Values of every kind that are no names of legs."""
    texts = [
        "", " ", "A", "Ab", "aB", "a b", " a", "a ", "a\n", "\na", "a1", "1", "_", "a_b", "a-b", "a.b", "`", "{",
        "abcdefghi", "a" * 4000, "ground", "power", "nothing",
    ]
    return no_strings() + texts


def no_tuples_or_lists():
    return [value for value in no_strings() + ["", "a", "ab"] if not isinstance(value, (list, tuple))]


def no_integers_between(least, most):
    """Values of every kind that are no integers from least to most."""
    found = []
    for value in no_strings() + ["", "0", "1", "a", least - 1, most + 1]:
        if isinstance(value, bool) or not isinstance(value, int) or not least <= value <= most:
            found.append(value)
    return found
