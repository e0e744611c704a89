"""The words of a line of text: which of them does not fit, and what they tell.

Each function wrong_.. is passed the words of a line without the one that begins it. It returns the
index among them of the first one that does not fit, or their number if one is missing; None if the
line is right.
"""

from strayjoins.frames import is_driver, is_member
from strayjoins.names import is_name
from strayjoins.words import Word


def is_number(word, least, most):
    """Whether a word is a number from least to most, as it is written."""
    return word in [str(number) for number in range(least, most + 1)]


def wrong_frame(words):
    """A top level, and behind it perhaps ground, then perhaps power."""
    if not words or not is_number(words[0], 1, 3):
        return 0
    left = ["ground", "power"]
    for at, word in enumerate(words[1:]):
        if word not in left:
            return at + 1
        left = left[left.index(word) + 1:]
    return None


def wrong_leg(words, taken):
    """A name of a leg that is not taken."""
    if not words or not is_name(words[0]) or words[0] in taken:
        return 0
    return 1 if len(words) > 1 else None


def wrong_word(frame, words):
    """The levels of a word: rest, or drivers with their levels."""
    if words == ["rest"]:
        return None
    named = []
    for at, word in enumerate(words):
        name, _, level = word.partition("=")
        if not is_driver(frame, name) or name in named or not is_number(level, 0, frame.top):
            return at
        named.append(name)
    return None if words else 0


def wrong_answer(frame, words):
    """A level for each leg."""
    for at, word in enumerate(words[:len(frame)]):
        if not is_number(word, 0, frame.top):
            return at
    return None if len(words) == len(frame) else min(len(words), len(frame))


def wrong_block(frame, words, taken, rivals):
    """Two elements or more, none of them twice or taken, and at most one of the rivals."""
    for at, word in enumerate(words):
        if not is_member(frame, word) or word in taken or word in words[:at]:
            return at
        if word in rivals and any([other in rivals for other in words[:at]]):
            return at
    return None if len(words) > 1 else len(words)


def wrong_pair(frame, words):
    """Two elements, perhaps one that is named twice."""
    for at, word in enumerate(words[:2]):
        if not is_member(frame, word):
            return at
    return None if len(words) == 2 else min(len(words), 2)


def word_of(frame, words):
    """The word that these words tell."""
    # A driver that is called rest is named with a level.
    named = [word.partition("=") for word in words if word != "rest"]
    return Word.of(frame, {name: int(level) for name, _, level in named})


def answer_of(frame, words):
    """The answer that these words tell."""
    return {name: int(word) for name, word in zip(frame.names, words)}
