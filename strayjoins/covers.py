"""How the elements of a class can be placed on sides, so that each side is a cover.

The makers of a class are a dict from its marked words to the names of their makers. A set of
marked words is a number with the bit 1 << index for each of them. A *kind* is the alike makers
that are not placed yet; kinds are rows (mask, names), with the words of which each of the names
is a maker. counts tells how many of each kind are left; the first names of a kind are placed
first. lacks tells for each side the words of which it has no maker yet.
"""


def words_made(makers):
    """For each maker of a class the words of which it is one."""
    masks = {}
    for index, names in makers.items():
        for name in names:
            masks[name] = masks.get(name, 0) | (1 << index)
    return masks


def all_words(makers):
    """All marked words of a class."""
    return sum([1 << index for index in makers])


def kinds_of(masks):
    """The kinds of these makers."""
    kinds = {}
    for name in sorted(masks):
        kinds.setdefault(masks[name], []).append(name)
    return [(mask, tuple(names)) for mask, names in kinds.items()]


def search_size(makers):
    """The number that point [15] bounds; 1 where a word with a single maker answers all."""
    if has_single_maker(makers):
        return 1
    size = 1
    for _, names in kinds_of(words_made(makers)):
        size = size * (len(names) + 1)
    return size
