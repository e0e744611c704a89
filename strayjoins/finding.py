"""Tables that find all faults: no other board gives the same answers as the board as it should be."""

from strayjoins.boards import Board, is_board_of
from strayjoins.errors import InvalidBoard
from strayjoins.names import least_power
from strayjoins.tables import Table
from strayjoins.verdicts import Verdict
from strayjoins.words import Word


def finds(table, wires):
    """Trees of cases if the table finds all, otherwise another board with the same answers."""
    if not is_board_of(table.frame, wires):
        raise InvalidBoard("frame")
    verdict = Verdict(table, table.answers_of(wires))
    missed = other_board(verdict, wires)
    if missed is not None:
        return ("missed", missed)
    return ("all", tuple([class_trees(verdict, block) for block in shown_classes(verdict)]))


def other_board(verdict, wires):
    """A board that fits and is not wires, None if there is none."""
    board = verdict.board
    if board != wires:
        return board
    for one, other in verdict.open_pairs():
        if board.joins(one, other):
            return verdict.parted(one, other)
        return board | Board(board.frame, [one, other])
    return None


def shown_classes(readings):
    """The classes of which trees of cases show that they cannot be parted."""
    return [block for block in readings.classes if block != readings.idle and len(block) > 1]


def class_trees(verdict, block):
    """A tree of cases for the least element of a class with each other one."""
    return tuple([verdict.cases(block[0], other) for other in block[1:]])


def fewest_finding(wires):
    """How many words a table that finds all has at least behind the rest word; None if no table finds all."""
    if not can_be_found(wires):
        return None
    least = least_power(wires.frame.top + 1, len(coded_blocks(wires)))
    return max(least, 1) if power_drivers(wires) else least


def finding_table(wires):
    """A table that finds all with the fewest words; None if no table finds all."""
    many = fewest_finding(wires)
    if many is None:
        return None
    frame = wires.frame
    rows = [{} for _ in range(many)]
    for name in power_drivers(wires):
        # Only locked legs are surely in power's block.
        rows[0][name] = 0
    for code, block in list(enumerate(coded_blocks(wires)))[1:]:
        driver = [name for name in block if name in frame.drivers][0]
        left = code
        for levels in rows:
            levels[driver] = frame.top - left % (frame.top + 1)
            left = left // (frame.top + 1)
    return Table.of(frame, [Word.of(frame, levels) for levels in rows])


def coded_blocks(wires):
    """The blocks without a rail; ahead of them the one that is never driven below top, () if there is none."""
    frame = wires.frame
    blocks = [block for block in wires.blocks if not any([name in frame.rails for name in block])]
    # Without power one leg can be the idle class by itself: a listener, since no word moves it.
    lone = [] if frame.power else [block for block in blocks if len(block) == 1]
    still = [block for block in lone if block[0] in frame.listeners] + lone + [()]
    return still[:1] + [block for block in blocks if block != still[0]]


def power_drivers(wires):
    """The drivers in power's block."""
    return [name for name in wires.frame.drivers if wires.frame.power and wires.joins(name, "power")]


def can_be_found(wires):
    """Whether some table finds all."""
    frame = wires.frame
    if any([frame.power and wires.joins(name, "power") for name in frame.listeners]):
        return False
    return all([any([name in frame.drivers for name in block]) for block in coded_blocks(wires)[1:]])
