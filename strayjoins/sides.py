"""Sides on which the makers of a class are placed, until each side is a cover.

The makers of a class come as a dict from its marked words to the names of their makers. A number
stands for a set of words: it has the bit 1 << index for each word of the set.
"""


class Sides:
    """What some sides lack, and the makers that are on none of them yet."""

    def __init__(self, kinds, lacks, counts):
        # Alike makers are one kind, a row (words, names). The last ones of its names, as many as
        # its count, are not placed yet.
        self.kinds = kinds
        self.lacks = lacks
        self.counts = counts

    def lacking(self):
        """The words that some side lacks."""
        words = 0
        for lack in self.lacks:
            words = words | lack
        return words

    def slack(self, index):
        """How many makers of a word are left beyond the sides that lack one."""
        word = 1 << index
        lacking = [lack for lack in self.lacks if lack & word]
        left = [many for (words, _), many in zip(self.kinds, self.counts) if words & word]
        return sum(left) - len(lacking)

    def short_words(self):
        """The indexes of the words with fewer makers left than sides that lack one."""
        return [index for index in word_indexes(self.lacking()) if self.slack(index) < 0]

    def tight_words(self):
        """The words over which the sides may have to contend; all can have the other words anyway."""
        words = self.lacking()
        plenty = self.plenty(words)
        while plenty:
            words = words & ~plenty
            plenty = self.plenty(words)
        return words

    def plenty(self, words):
        """Those of these words with enough makers, alike in these words, for all sides at once."""
        left = {}
        for (made, _), many in zip(self.kinds, self.counts):
            left[made & words] = left.get(made & words, 0) + many
        found = 0
        for made, many in left.items():
            if many >= len([lack for lack in self.lacks if lack & made]):
                found = found | made
        return found

    def next_name(self, at):
        """The maker of a kind that is placed next."""
        names = self.kinds[at][1]
        return names[len(names) - self.counts[at]]

    def placed(self, at, side):
        """The sides with the next maker of a kind on one of them."""
        words = self.kinds[at][0]
        lacks = [lack & ~words if place == side else lack for place, lack in enumerate(self.lacks)]
        counts = [many - 1 if kind == at else many for kind, many in enumerate(self.counts)]
        return Sides(self.kinds, tuple(lacks), tuple(counts))


def word_indexes(words):
    """The indexes of the words of a set, ascending."""
    return [index for index in range(words.bit_length()) if words >> index & 1]


def words_made(makers):
    """For each maker of a class the words of which it is one."""
    made = {}
    for index, names in makers.items():
        for name in names:
            made[name] = made.get(name, 0) | (1 << index)
    return made


def kinds_of(made):
    """The kinds of these makers."""
    kinds = {}
    for name in sorted(made):
        kinds.setdefault(made[name], []).append(name)
    return [(words, tuple(names)) for words, names in kinds.items()]


def begun_sides(makers, firsts):
    """A side for each of these elements of a class, which begin them; None begins an empty side."""
    made = words_made(makers)
    words = sum([1 << index for index in makers])
    lacks = tuple([words & ~made.get(first, 0) for first in firsts])
    kinds = kinds_of({name: made[name] for name in made if name not in firsts})
    return Sides(kinds, lacks, tuple([len(names) for _, names in kinds]))
