"""Trees of cases: why some elements of a class cannot be all apart."""

from strayjoins.sides import word_indexes


def tree_of(sides):
    """A tree of cases for sides that cannot all become covers."""
    short = sides.short_words()
    if short:
        return ("word", short[0])
    at = deciding_kind(sides)
    trees = [tree_of(sides.placed(at, side)) for side in range(len(sides.lacks))]
    return ("leg", sides.next_name(at), tuple(trees))


def deciding_kind(sides):
    """The kind whose next maker is to be placed: the sooner a case is decided, the smaller the tree."""
    tight = sides.tight_words()
    slacks = {index: sides.slack(index) for index in word_indexes(tight)}
    least = min(list(slacks.values()))
    tightest = sum([1 << index for index, slack in slacks.items() if slack == least])
    ranks = [
        (decided_cases(sides, words, tightest, least), len(word_indexes(words & tightest)), -at)
        for at, (words, _) in enumerate(sides.kinds)
        if words & tight and sides.counts[at]
    ]
    return -max(ranks)[2]


def decided_cases(sides, words, tightest, least):
    """On how many sides a maker of these words is missed at once by the other ones."""
    if least > 0:
        return 0
    return len([lack for lack in sides.lacks if words & tightest & ~lack])
