"""Reads what texts writes."""

from strayjoins.boards import Board
from strayjoins.errors import InvalidText
from strayjoins.frames import Frame
from strayjoins.legs import Driver, Listener
from strayjoins.lines import answer_of, word_of, wrong_answer, wrong_block, wrong_frame, wrong_leg, wrong_word
from strayjoins.tables import Table

RAILS = ("ground", "power")


def read_frame(text):
    """The frame that a text tells."""
    return frame_of(text_lines(text))


def read_word(frame, text):
    """The word of a frame that a text tells."""
    if not isinstance(text, str):
        raise InvalidText(0, 0)
    words = text.split(" ")
    found = wrong_word(frame, words)
    if found is not None:
        raise InvalidText(0, found)
    return word_of(frame, words)


def read_board(frame, text):
    """The board of a frame that a text tells."""
    lines = text_lines(text)
    blocks = []
    if lines != [[""]]:
        for at, words in enumerate(lines):
            taken = [name for block in blocks for name in block]
            check_line(at, words, ["block"], wrong_block(frame, words[1:], taken, RAILS))
            blocks.append(words[1:])
    return Board.of(frame, blocks)


def read_session(text):
    """The table and the answers that a text tells."""
    lines = text_lines(text)
    firsts = [words[0] for words in lines]
    start = firsts.index("reads") if "reads" in firsts else len(lines)
    frame = frame_of(lines[:start])
    told = lines[start:]
    rows = []
    answers = []
    for at, words in enumerate(told):
        if at == 2 * Table.MOST - 1:
            raise InvalidText(start + at, 0)
        if len(answers) > len(rows):
            check_line(start + at, words, ["word"], wrong_word(frame, words[1:]))
            rows.append(word_of(frame, words[1:]))
        else:
            check_line(start + at, words, ["reads"], wrong_answer(frame, words[1:]))
            answers.append(answer_of(frame, words[1:]))
    if len(answers) == len(rows):
        raise InvalidText(len(lines), 0)
    return (Table.of(frame, rows), answers)


def text_lines(text):
    """The words of each line of a text, any value."""
    if not isinstance(text, str):
        raise InvalidText(0, 0)
    return [line.split(" ") for line in text.split("\n")]


def check_line(at, words, firsts, found):
    """Raises InvalidText if a line begins with none of these words, or a word behind the first one is found wrong."""
    if words[0] not in firsts:
        raise InvalidText(at, 0)
    if found is not None:
        raise InvalidText(at, found + 1)


def frame_of(lines):
    """The frame that the words of some lines tell."""
    if not lines:
        raise InvalidText(0, 0)
    first = lines[0]
    check_line(0, first, ["frame"], wrong_frame(first[1:]))
    legs = []
    for at, words in enumerate(lines[1:]):
        kinds = ["driver", "listener"] if at < Frame.MOST else []
        check_line(at + 1, words, kinds, wrong_leg(words[1:], [leg.name for leg in legs]))
        legs.append(Driver(words[1]) if words[0] == "driver" else Listener(words[1]))
    return Frame.of(legs, top=int(first[1]), ground="ground" in first, power="power" in first)
