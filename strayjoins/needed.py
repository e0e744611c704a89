"""Which words of a table are needed for what its verdict says."""

from strayjoins.errors import TooMany
from strayjoins.names import is_between
from strayjoins.tables import Table
from strayjoins.verdicts import Verdict


def needed(table, answers):
    """The indexes that are left if each word is left out, the last one first, where the verdict says the same."""
    verdict = Verdict(table, answers)
    kept = list(range(1, len(table)))
    for index in range(len(table) - 1, 0, -1):
        others = [other for other in kept if other != index]
        if says_the_same(verdict, others):
            kept = others
    return tuple(kept)


def shows_needed(table, answers, thing):
    """Whether any value is a tuple of indexes that say the same as the whole table, but not without any of them."""
    verdict = Verdict(table, answers)
    if not isinstance(thing, tuple) or not all([is_between(index, 1, len(table) - 1) for index in thing]):
        return False
    if thing != tuple(sorted(set(thing))) or not says_the_same(verdict, thing):
        return False
    return not any([says_the_same(verdict, [other for other in thing if other != index]) for index in thing])


def says_the_same(verdict, indexes):
    """Whether the rest word and these words say the same of each two elements as the verdict."""
    words = verdict.table.words
    answers = verdict.answers
    table = Table.of(verdict.table.frame, [words[index] for index in indexes])
    try:
        other = Verdict(table, [answers[0]] + [answers[index] for index in indexes])
    except TooMany:
        return False
    # Elements are apart if they are of two classes, and together if they are of one bundle.
    return other.classes == verdict.classes and other.bundles == verdict.bundles
