"""Values that are like a certificate, but bent somewhere."""

from strayjoins.boards import Board
from strayjoins.frames import Frame
from strayjoins.legs import Driver
from tests.values import no_strings

ODD = [None, True, False, 0, 1, -1, 60, "", "a", "word", (), [], {}, ("a",), (("a",),), ("word", 0), ("word", 1), ("end",), Driver("a")]


def bends(value, names=()):
    """Values that differ from this one in one place, at any depth."""
    yield from ODD
    if isinstance(value, bool) or value is None:
        return
    if isinstance(value, int):
        yield from (value + 1, value - 1, bool(value), str(value), -value - 1, [value], (value,))
    elif isinstance(value, str):
        yield from (value + "x", value.upper(), [value], (value,))
        yield from names
    elif isinstance(value, Board):
        yield from board_bends(value)
    elif isinstance(value, tuple):
        yield from (list(value), value[:-1], value[1:], value + value[-1:], value[::-1], (value,), value + (None,), value + ((),))
        yield dict(enumerate(value))
        for at, part in enumerate(value):
            for other in bends(part, names):
                yield value[:at] + (other,) + value[at + 1:]


def board_bends(board):
    """Other boards, of this frame and of other ones."""
    frame = board.frame
    yield str(board)
    yield board.blocks
    yield frame
    yield Board(frame)
    yield Board.of(Frame(*frame.legs[::-1], top=frame.top, ground=frame.ground, power=frame.power), board.blocks)
    yield Board(Frame(*frame.legs[1:], top=frame.top, ground=frame.ground, power=frame.power))
    yield Board(Frame(*frame.legs, top=frame.top % 3 + 1, ground=frame.ground, power=frame.power), *board.blocks)
    for name in frame.members:
        yield board - name
        for other in frame.members:
            if name < other and (name, other) != ("ground", "power") and not {"ground", "power"} <= {*board[name], *board[other]}:
                yield board | Board(frame, [name, other])


def any_values():
    """Values of every kind."""
    return no_strings() + ODD + [10 ** 59, "a" * 4000, [[]] * 999, ("same",) * 3, ("open", None, None), ("all",), ("twins", (), ())]


def deep(kind, depth):
    """A value that is nested so deep."""
    value = kind()
    for _ in range(depth):
        value = kind([value])
    return value
