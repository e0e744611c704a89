"""Benches: boards behind a chain, one link of which may be hurt."""

from strayjoins.deeds import RESET
from strayjoins.errors import InvalidBoard, InvalidHurt
from strayjoins.frames import is_member
from strayjoins.links import arrived_word, leaving_digits
from strayjoins.trials import Trial
from strayjoins.words import Word


class Bench:
    """A board that is asked by scans."""

    def __init__(self, chain, board, hurt=None):
        if board.frame != chain.frame:
            raise InvalidBoard("frame")
        if hurt is not None:
            check_hurt(chain, hurt)
        self._chain = chain
        self._board = board
        self._hurt = hurt
        # The word that is held, and the deeds: one value, so that a trial can put it back.
        self._state = (Word.rest(chain.frame), (RESET,))

    @property
    def held(self):
        return self._state[0]

    @property
    def deeds(self):
        return self._state[1]

    def scan(self, word):
        """Does a scan; returns the digits that left."""
        digits, held = self._outcome(word)
        self._state = (held, self.deeds + (("scan", word, digits),))
        return digits

    def beats(self, word):
        """What would enter and what would leave, beat by beat."""
        digits, _ = self._outcome(word)
        for sent, came in zip(self._chain.entering(word), digits):
            yield (sent, came)

    def reset(self):
        self._state = (Word.rest(self._chain.frame), self.deeds + (RESET,))

    def trial(self):
        """A block behind which the bench is as it was."""
        return Trial(self)

    def tried(self, deed):
        """What deed(bench) returns; behind it the bench is as it was."""
        with self.trial() as same:
            return deed(same)

    def asked(self, *words):
        """The digits of the answers to these words, each behind a reset; behind it the bench is as it was."""
        rest = Word.rest(self._chain.frame)
        found = []
        with self.trial():
            for word in words:
                self.reset()
                self.scan(word)
                found.append(self.scan(rest))
        return found

    def _outcome(self, word):
        """The digits that would leave in a scan, and the word that would be held behind it."""
        chain = self._chain
        caught = [self._board.reads(self.held, cell) if isinstance(cell, str) else cell for cell in chain.cells]
        head = self._head()
        link = 0 if self._hurt is None else self._hurt.link
        return (leaving_digits(chain, caught, link, head), arrived_word(chain, word, link, head))

    def _head(self):
        """The head as it comes back while the word is held."""
        top = self._chain.frame.top
        if self._hurt is None:
            return (0, top)
        name = self._hurt.name
        if name == "nothing" or "power" in self._board[name]:
            return (top, top)
        return (0, self._board.reads(self.held, name))


def check_hurt(chain, hurt):
    """Raises InvalidHurt if this is no link of the chain, or joined with no element of its frame."""
    if hurt.link > len(chain):
        raise InvalidHurt("link")
    if hurt.name != "nothing" and not is_member(chain.frame, hurt.name):
        raise InvalidHurt("name")
