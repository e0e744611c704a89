"""Two boards that fit and that some further words do not tell apart."""

from math import gcd

from strayjoins.asking import hardest
from strayjoins.boards import Board, is_board_of
from strayjoins.errors import InvalidWord
from strayjoins.spread import spread
from strayjoins.words import is_word_of


def weights(rows):
    """Weights for the rows, not all 0, whose products with the rows add up to 0; None if there are none."""
    reduced = []
    for at, row in enumerate(rows):
        # Behind its entries stands how a row is made of the rows as they came.
        shares = [1 if place == at else 0 for place in range(len(rows))]
        entries = [*row, *shares]
        for first, other in reduced:
            entries = without_entry(entries, first, other)
        filled = [place for place, entry in enumerate(entries[:len(row)]) if entry]
        if not filled:
            return entries[len(row):]
        reduced.append((filled[0], entries))
    return None


def without_entry(entries, at, other):
    """A sum of products of two rows, as small as can be, without the entry that the other row has there."""
    if entries[at] == 0:
        return entries
    mixed = [other[at] * one - entries[at] * two for one, two in zip(entries, other)]
    common = 0
    for entry in mixed:
        common = gcd(common, entry)
    return [entry // common for entry in mixed]


def twins(verdict, *words):
    """Two boards that fit and answer alike to these words; None if there are more words than the spreads bear."""
    frame = verdict.table.frame
    check_words(frame, words)
    for block in verdict.classes:
        parts = spread(verdict, block[0])
        if frame.top * len(words) <= len(parts) - 2:
            one, other = alike_parts(verdict, parts, words)
            # The other parts are blocks on both boards; so all classes are parted into covers.
            board = hardest(verdict)
            return (board | Board(frame, one, other), board | Board(frame, one + other))
    return None


def alike_parts(verdict, parts, words):
    """The names of two unions of parts of a class that read the same at these words."""
    # In the idle class what no word moves reads top whatever is joined with it, if there is power.
    still = [part for part in parts if part[0] in verdict.idle and part[0] not in verdict.mute]
    moved = [part for part in parts if part not in still]
    rows = [low_entries(part, words) + ([] if still else [1]) for part in moved]
    found = weights(rows)
    over = [name for part, weight in zip(moved, found) if weight > 0 for name in part]
    under = [name for part, weight in zip(moved, found) if weight < 0 for name in part]
    # Without the column of ones all weights may have one sign: these parts read top at all words.
    return (over or list(still[0]), under or list(still[0]))


def low_entries(part, words):
    """For each word and each level above 0 a 1 if the part reads below this level there, otherwise a 0."""
    return [
        1 if min([word[name] for name in part]) < level else 0
        for word in words for level in range(1, word.frame.top + 1)
    ]


def check_words(frame, words):
    """Raises InvalidWord if one of the values is no word of an equal frame."""
    if not all([is_word_of(frame, word) for word in words]):
        raise InvalidWord(None)


def shows_twins(verdict, words, thing):
    """Whether any value is a pair of boards as twins returns it for these words, however great the spreads are."""
    if not isinstance(words, (list, tuple)):
        raise InvalidWord(None)
    frame = verdict.table.frame
    check_words(frame, words)
    if not isinstance(thing, tuple) or len(thing) != 2 or not all([is_board_of(frame, board) for board in thing]):
        return False
    one, other = thing
    if not verdict.fits(one) or not verdict.fits(other):
        return False
    if [one(word) for word in words] != [other(word) for word in words]:
        return False
    moved = [name for name in frame.drivers if one[name] != other[name]]
    return any([not is_locked(name, one, [*verdict.table.words, *words]) for name in moved])


def is_locked(name, board, words):
    """Whether a driver reads top at each of these words and is driven below top at one of them."""
    top = board.frame.top
    return all([board.reads(word, name) == top for word in words]) and any([word[name] < top for word in words])
