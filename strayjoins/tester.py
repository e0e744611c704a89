"""Testers: the words that were told so far, and what their answers tell."""

from strayjoins.asking import next_word
from strayjoins.boards import Board, is_board_of
from strayjoins.errors import InvalidBoard, InvalidWord, NothingToUndo, TooMany
from strayjoins.names import is_between
from strayjoins.tables import Table
from strayjoins.trials import Trial
from strayjoins.verdicts import Verdict
from strayjoins.words import Word, is_word_of


class Tester:
    """A frame, the board as it should be, and the words and answers so far."""

    def __init__(self, frame, *, wires=None):
        self._frame = frame
        # The verdicts behind each word so far, and the wires: one value, so that a trial can put it back.
        self._state = ((), checked_wires(frame, wires))

    @property
    def table(self):
        return self._state[0][-1].table if self._state[0] else None

    @property
    def verdict(self):
        return self._state[0][-1] if self._state[0] else None

    @property
    def answers(self):
        return self._state[0][-1].answers if self._state[0] else []

    @property
    def wires(self):
        return self._state[1]

    @wires.setter
    def wires(self, value):
        self._state = (self._state[0], checked_wires(self._frame, value))

    def set_wires(self, wires):
        self.wires = wires

    def tell(self, answer, word=None):
        """Adds a word and its answer."""
        verdicts, wires = self._state
        answers = self.answers
        verdict = Verdict(self._table_with(word), answers + [answer])
        self._state = (verdicts + (verdict,), wires)

    def wanted(self):
        """The word to ask next."""
        verdict = self.verdict
        return Word.rest(self._frame) if verdict is None else next_word(verdict)

    def findings(self):
        """What is otherwise than wires, or not known, for each two elements."""
        verdict = self.verdict
        wires = self.wires
        members = self._frame.members
        for at, one in enumerate(members):
            for other in members[at + 1:]:
                word = finding_of(verdict, wires, one, other)
                if word is not None:
                    yield (word, one, other)

    def undo(self, count=1):
        """Takes back the last words that were told."""
        verdicts, wires = self._state
        if not is_between(count, 0, len(verdicts)):
            raise NothingToUndo()
        self._state = (verdicts[:len(verdicts) - count], wires)

    def trial(self):
        """A block behind which the tester is as it was."""
        return Trial(self)

    def tried(self, deed):
        """What deed(tester) returns; behind it the tester is as it was."""
        with self.trial() as same:
            return deed(same)

    def copied(self):
        """Another tester that was told the same."""
        other = Tester(self._frame)
        other._state = self._state
        return other

    def __len__(self):
        return len(self._state[0])

    def _table_with(self, word):
        """The table with one word more, any value; at first that of the rest word."""
        table = self.table
        if table is not None:
            return table + word
        if word is not None and word != Word.rest(self._frame):
            raise InvalidWord(None)
        return Table(self._frame)


def checked_wires(frame, wires):
    """The board as it should be; raises InvalidBoard for any value that is neither None nor a board of the frame."""
    if wires is None:
        return Board(frame)
    if not is_board_of(frame, wires):
        raise InvalidBoard("frame")
    return wires


def finding_of(verdict, wires, one, other):
    """What is to be told of two different elements, None if they are as wires has them."""
    if verdict is None:
        return None if [one, other] == ["ground", "power"] else "unsure"
    said = verdict.says(one, other)
    if said == "open":
        return "unsure"
    if wires.joins(one, other):
        return "broken" if said == "apart" else None
    return "joined" if said == "together" else None
