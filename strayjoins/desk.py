"""A desk that answers lines about one board."""

from strayjoins.asking import at_once, next_word
from strayjoins.boards import Board
from strayjoins.counting import count
from strayjoins.errors import InvalidCommand
from strayjoins.frames import Frame
from strayjoins.legs import Driver, Listener
from strayjoins.lines import (
    answer_of, word_of, wrong_answer, wrong_block, wrong_frame, wrong_leg, wrong_pair, wrong_word,
)
from strayjoins.spread import bounds
from strayjoins.tester import Tester
from strayjoins.texts import chart, frame_text, session_text


def check_words(found):
    """Raises InvalidCommand if a word behind the command is found wrong."""
    if found is not None:
        raise InvalidCommand(found + 1)


def check_bare(words):
    """Raises InvalidCommand if there is a word behind the command."""
    check_words(0 if words else None)


def one_line(text):
    """The lines of a text as one line."""
    return " / ".join(text.split("\n"))


def begin_frame(desk, words):
    check_words(wrong_frame(words))
    desk._begin(Frame(top=int(words[0]), ground="ground" in words, power="power" in words))
    return "ok"


def add_driver(desk, words):
    check_words(wrong_leg(words, ()))
    desk._begin(desk._frame + Driver(words[0]))
    return "ok"


def add_listener(desk, words):
    check_words(wrong_leg(words, ()))
    desk._begin(desk._frame + Listener(words[0]))
    return "ok"


def join_wires(desk, words):
    check_words(wrong_block(desk._frame, words, (), ()))
    desk._tester.set_wires(desk._tester.wires | Board(desk._frame, words))
    return "ok"


def set_word(desk, words):
    check_words(wrong_word(desk._frame, words))
    desk._waiting = word_of(desk._frame, words)
    return "ok"


def add_answer(desk, words):
    if len(desk._tester) > 0 and desk._waiting is None:
        raise InvalidCommand(0)
    check_words(wrong_answer(desk._frame, words))
    desk._tester.tell(answer_of(desk._frame, words), desk._waiting)
    desk._waiting = None
    return "ok"


def undo_answer(desk, words):
    check_bare(words)
    desk._tester.undo()
    desk._waiting = None
    return "ok"


def show_session(desk, words):
    check_bare(words)
    tester = desk._tester
    if len(tester) == 0:
        return one_line(frame_text(desk._frame))
    return one_line(session_text(tester.table, tester.answers))


def tell_pair(desk, words):
    check_words(wrong_pair(desk._frame, words))
    return desk._tester.verdict.says(words[0], words[1])


def tell_bundles(desk, words):
    check_bare(words)
    named = [" ".join(bundle) for bundle in desk._tester.verdict.bundles]
    return " ".join([f"({names})" for names in named] or ["-"])


def tell_bounds(desk, words):
    check_bare(words)
    found = bounds(desk._tester.verdict)
    return f"{found.least_at_once} {found.most_at_once} {found.least_by_turns} {found.most_by_turns}"


def tell_next(desk, words):
    check_bare(words)
    verdict = desk._tester.verdict
    return "settled" if verdict.settled else str(next_word(verdict))


def tell_words(desk, words):
    check_bare(words)
    return "; ".join([str(word) for word in at_once(desk._tester.verdict)] or ["settled"])


def tell_count(desk, words):
    check_bare(words)
    return str(count(desk._tester.verdict))


def tell_board(desk, words):
    check_bare(words)
    return str(desk._tester.verdict.board)


def tell_findings(desk, words):
    check_bare(words)
    found = [f"{word} {one} {other}" for word, one, other in desk._tester.findings()]
    return ", ".join(found or ["-"])


def tell_chart(desk, words):
    check_bare(words)
    return one_line(chart(desk._tester.verdict))


WITH_FRAME = {
    "driver": add_driver, "listener": add_listener, "wires": join_wires, "reads": add_answer, "undo": undo_answer,
    "show": show_session,
}
WITH_ANSWER = {
    "word": set_word, "says": tell_pair, "bundles": tell_bundles, "bounds": tell_bounds, "next": tell_next,
    "ask": tell_words, "count": tell_count, "board": tell_board, "findings": tell_findings, "chart": tell_chart,
}


class Desk:
    """One board, told and asked line by line."""

    def __init__(self):
        self._frame = None
        self._tester = None
        # The word that the next answer is for; None at first, for the rest word.
        self._waiting = None

    def say(self, line):
        """Carries out a line, any value, and returns its answer."""
        if not isinstance(line, str):
            raise InvalidCommand(0)
        first, *words = line.split(" ")
        if first == "frame":
            return begin_frame(self, words)
        if self._tester is None or (first in WITH_ANSWER and len(self._tester) == 0):
            raise InvalidCommand(0)
        act = WITH_ANSWER.get(first, WITH_FRAME.get(first))
        if act is None:
            raise InvalidCommand(0)
        return act(self, words)

    def tester(self):
        """A new tester with all that was answered so far; None without a frame."""
        return None if self._tester is None else self._tester.copied()

    def __call__(self, line):
        return self.say(line)

    def _begin(self, frame):
        """Forgets all but this frame."""
        self._frame = frame
        self._tester = Tester(frame)
        self._waiting = None
