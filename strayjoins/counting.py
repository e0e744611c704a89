"""All boards that fit: how many there are, and each of them."""

from math import comb

from strayjoins.boards import Board, partings
from strayjoins.parts import has_single_maker
from strayjoins.readings import class_makers
from strayjoins.sides import kinds_of, words_made


def count(verdict):
    """The number of boards that fit."""
    number = parting_number(len(idle_units(verdict)))
    for block in verdict.classes:
        if block != verdict.idle:
            number = number * cover_number(block, class_makers(verdict, block))
    return number


def boards(verdict):
    """All boards that fit, each once."""
    for blocks in fitting_blocks(verdict, verdict.classes):
        yield Board(verdict.table.frame, *blocks)


def idle_units(verdict):
    """What is in one block of the idle class on each board; these units can be joined in any way."""
    return [block for block in verdict.board.blocks if block[0] in verdict.idle]


def parting_number(many):
    """The number of ways to part so many things."""
    # The rows of Bell's triangle: each begins with the last number of the row before it.
    row = [1]
    for _ in range(many):
        after = [row[-1]]
        for number in row:
            after.append(after[-1] + number)
        row = after
    return row[0]


def cover_number(block, makers):
    """The number of ways to part a class into covers."""
    if has_single_maker(makers):
        return 1
    made = words_made(makers)
    kinds = kinds_of(made)
    ways = cover_ways([words for words, _ in kinds], tuple([len(names) for _, names in kinds]))
    for _ in range(len(block) - len(made)):
        # What makes no word can be in each of the covers.
        ways = {covers: covers * number for covers, number in ways.items()}
    return sum(list(ways.values()))


def cover_ways(masks, counts):
    """For each number of covers: in how many ways so many makers of each kind can be parted into them."""
    found = {counts: {0: 1}}
    left = counts
    # From the greatest counts down: what one cover more leaves is always less.
    while any(left):
        ways = found.pop(left)
        for taken in first_covers(masks, left):
            after = difference(left, taken)
            choices = choice_number(left, taken)
            more = {covers + 1: choices * number for covers, number in ways.items()}
            found[after] = summed(found.get(after, {}), more)
        left = max(found)
    return found[left]


def summed(numbers, more):
    """The sums of the numbers with the same key."""
    return {**numbers, **{key: numbers.get(key, 0) + number for key, number in more.items()}}


def difference(counts, taken):
    """What is left of these counts."""
    return tuple([many - some for many, some in zip(counts, taken)])


def first_kind(counts):
    """The first kind with a maker that is left."""
    return [at for at, many in enumerate(counts) if many][0]


def first_covers(masks, counts):
    """How many makers of each kind the cover with the first maker can have, so that covers can be made of the rest."""
    rows = [((), 0, 0)]
    for words, many in zip(masks, counts):
        rows = [
            ((*taken, some), had | (words if some else 0), kept | (words if some < many else 0))
            for taken, had, kept in rows for some in range(many + 1)
        ]
    at = first_kind(counts)
    # The last row takes all makers: its words are all words, and nothing need be made of the rest.
    words = rows[-1][1]
    return [taken for taken, had, kept in rows if taken[at] and had == words and kept in (0, words)]


def choice_number(counts, taken):
    """In how many ways so many makers of each kind can be taken, the first one among them."""
    at = first_kind(counts)
    number = comb(counts[at] - 1, taken[at] - 1)
    for many, some in list(zip(counts, taken))[at + 1:]:
        number = number * comb(many, some)
    return number


def fitting_blocks(verdict, classes):
    """The blocks of these classes on all boards that fit."""
    if not classes:
        yield []
        return
    for blocks in class_partings(verdict, classes[0]):
        for others in fitting_blocks(verdict, classes[1:]):
            yield blocks + others


def class_partings(verdict, block):
    """The blocks of a class on all boards that fit."""
    makers = class_makers(verdict, block)
    if block == verdict.idle:
        for parts in partings(idle_units(verdict)):
            yield [[name for unit in part for name in unit] for part in parts]
    elif has_single_maker(makers):
        yield [block]
    else:
        made = words_made(makers)
        kinds = kinds_of(made)
        others = [name for name in block if name not in made]
        for blocks in cover_partings([words for words, _ in kinds], [names for _, names in kinds]):
            yield from joined_anywhere(blocks, others)


def cover_partings(masks, rows):
    """All ways to part the makers of these rows, one for each kind, into covers."""
    counts = tuple([len(names) for names in rows])
    if not any(counts):
        yield []
        return
    at = first_kind(counts)
    first = rows[at][0]
    others = [*rows[:at], rows[at][1:], *rows[at + 1:]]
    for taken in first_covers(masks, counts):
        for names, left in picked_rows(others, [*taken[:at], taken[at] - 1, *taken[at + 1:]]):
            for covers in cover_partings(masks, left):
                yield [[first, *names], *covers]


def picked_rows(rows, taken):
    """All ways to take so many names of each row: the names, and what is left of the rows."""
    if not rows:
        yield ([], [])
        return
    for names, left in picked(rows[0], taken[0]):
        for more, others in picked_rows(rows[1:], taken[1:]):
            yield ([*names, *more], [left, *others])


def picked(names, many):
    """All ways to take so many of these names: those taken, and those left."""
    if many in (0, len(names)):
        yield (names[:many], names[many:])
        return
    for more, left in picked(names[1:], many - 1):
        yield ((names[0], *more), left)
    for more, left in picked(names[1:], many):
        yield (more, (names[0], *left))


def joined_anywhere(blocks, names):
    """All ways to join each of these names with one of the blocks."""
    if not names:
        yield blocks
        return
    for at, block in enumerate(blocks):
        yield from joined_anywhere([*blocks[:at], [*block, names[0]], *blocks[at + 1:]], names[1:])
