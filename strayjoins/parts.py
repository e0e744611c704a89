"""How a class that is not idle can be parted into covers.

The makers of a class come as in sides.py.
"""

from strayjoins.sides import begun_sides, kinds_of, words_made


def has_single_maker(makers):
    """Whether some word has a single maker; then no two covers part the class."""
    return any([len(names) == 1 for names in makers.values()])


def search_size(makers):
    """The number of choices that a search for covers goes through at most."""
    if has_single_maker(makers):
        return 1
    size = 1
    for _, names in kinds_of(words_made(makers)):
        size = size * (len(names) + 1)
    return size


def class_bundles(block, makers):
    """The bundles of a class, as long as its search size is small."""
    if has_single_maker(makers):
        return [block]
    made = words_made(makers)
    # Of two makers that are alike in the tight words one can be on each side, so these words
    # would not be tight: the makers of tight words are few, and no two of them are alike.
    tight = begun_sides(makers, (None, None)).tight_words()
    names = [name for name in block if made.get(name, 0) & tight]
    splits = two_covers([made[name] & tight for name in names], tight)
    if not splits:
        return [block]
    groups = {}
    for at, name in enumerate(names):
        sides = tuple([split >> at & 1 for split in splits])
        groups.setdefault(sides, []).append(name)
    return [(name,) for name in block if name not in names] + [tuple(group) for group in groups.values()]


def two_covers(masks, words):
    """The ways to part makers of these masks into two covers, as numbers with a bit for each maker."""
    had = [0]
    for mask in masks:
        had = had + [have | mask for have in had]
    last = len(had) - 1
    return [split for split, have in enumerate(had) if have == words and had[last - split] == words]


def class_parts(block, makers, firsts):
    """Covers that part a class, each with one of these elements; None if there are none."""
    added = completed(begun_sides(makers, firsts))
    if added is None:
        return None
    return with_others(block, [[first, *names] for first, names in zip(firsts, added)])


def most_parts(block, makers):
    """Covers that part a class, as many as can be."""
    if has_single_maker(makers):
        return [block]
    sides = begun_sides(makers, ())
    words = sum([1 << index for index in makers])
    layers = [{sides.counts: None}]
    while layers[-1]:
        layers.append(next_layer(layers[-1], sides.kinds, words))
    return with_others(block, taken_names(layers[:-1], sides.kinds))


def with_others(block, parts):
    """These parts of a class, the other elements of the class in the first one."""
    placed = [name for part in parts for name in part]
    others = [name for name in block if name not in placed]
    return [[*parts[0], *others], *parts[1:]]


def completed(sides):
    """Makers for each side, so that all sides become covers; None if there are none."""
    if sides.short_words():
        return None
    # Side by side: which counts can be left behind a side. There are few of them, in whatever
    # order and number the sides come.
    layers = [{sides.counts: None}]
    for lack in sides.lacks:
        layers.append(next_layer(layers[-1], sides.kinds, lack))
    return taken_names(layers, sides.kinds) if layers[-1] else None


def taken_names(layers, kinds):
    """The makers that the sides take on some way through these layers, side by side."""
    left = list(layers[-1])[0]
    chosen = []
    for layer in layers[:0:-1]:
        left, taken = layer[left]
        chosen.append(taken)
    unused = [list(names) for _, names in kinds]
    return [[unused[at].pop() for at in taken] for taken in chosen[::-1]]


def next_layer(layer, kinds, lack):
    """The counts that can be left behind one side more, each with those before it and the kinds taken."""
    found = {}
    for counts in layer:
        there = [at for at, many in enumerate(counts) if many]
        for taken in completions(kinds, there, lack):
            left = tuple([many - 1 if at in taken else many for at, many in enumerate(counts)])
            found.setdefault(left, (counts, taken))
    return found


def completions(kinds, there, lack):
    """Sets of these kinds that have a maker of each lacking word; the least such sets are among them."""
    if lack == 0:
        return [()]
    word = lack & -lack
    left = list(there)
    found = []
    for at in [kind for kind in there if kinds[kind][0] & word]:
        # Behind this all sets with this kind are found.
        left = [kind for kind in left if kind != at]
        found.extend([(at, *more) for more in completions(kinds, left, lack & ~kinds[at][0])])
    return found
