"""Tables: rows of words, the rest word first."""

from strayjoins.errors import InvalidWord, NoWord, TooMany
from strayjoins.names import is_between
from strayjoins.words import Word, is_word_of


class Table:
    """The rest word, and behind it any words of a frame."""

    MOST = 60

    def __init__(self, frame, *words):
        if not all([is_word_of(frame, word) for word in words]):
            raise InvalidWord(None)
        if len(words) + 1 > Table.MOST:
            raise TooMany(Table.MOST)
        self.frame = frame
        self._words = (Word.rest(frame), *words)

    @classmethod
    def of(cls, frame, words):
        if not isinstance(words, (list, tuple)):
            raise InvalidWord(None)
        return cls(frame, *words)

    @property
    def words(self):
        return self._words

    def without(self, index):
        """The table without one of the words behind the rest word."""
        if not is_between(index, 1, len(self._words) - 1):
            raise NoWord(index)
        words = self._words[1:index] + self._words[index + 1:]
        return Table(self.frame, *words)

    def answers_of(self, board):
        """The answers of a board of the frame, one for each word."""
        return [board(word) for word in self._words]

    def driven(self, name):
        """The levels at which an element is driven, one for each word."""
        return tuple([word[name] for word in self._words])

    def __getitem__(self, at):
        if not is_between(at, 0, len(self._words) - 1):
            raise NoWord(at)
        return self._words[at]

    def __iter__(self):
        raise TypeError("a table is not iterated over")

    def __len__(self):
        return len(self._words)

    def __eq__(self, other):
        return isinstance(other, Table) and self.frame == other.frame and self._words == other._words

    def __add__(self, other):
        words = self._words[1:]
        return Table(self.frame, *words, other)
