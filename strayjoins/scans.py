"""Scans: what the deeds of a bench tell, though a link of its chain may be hurt."""

from strayjoins.deeds import RESET, check_deeds, scan_places, told_link
from strayjoins.errors import TooMany
from strayjoins.links import arrived_word, head_of, read_answer
from strayjoins.tables import Table
from strayjoins.words import Word


class Scans:
    """The scans of some deeds: which are spoiled, which words were held, and what the kept ones answer."""

    def __init__(self, chain, deeds):
        check_deeds(chain, deeds)
        self.chain = chain
        # For each scan its index among the deeds.
        self._places = scan_places(deeds)
        rows = [deeds[at][2] for at in self._places]
        sound = (0, chain.frame.top)
        heads = [head_of(digits) for digits in rows]
        # A head that was lifted, or is as it was sent, ends in top.
        self._caps = tuple([head[1] for head in heads])
        self._kept = tuple([number for number, head in enumerate(heads) if head == sound])
        if len(self._kept) > Table.MOST:
            raise TooMany(Table.MOST)
        links = [told_link(chain, digits) for digits, head in zip(rows, heads) if head != sound]
        self._link = links[0] if links else None
        self._held = held_words(chain, deeds, self._link)
        words = [self._held[number] for number in self._kept]
        self._table = Table.of(chain.frame, words[1:]) if words else None
        self._answers = [read_answer(chain, rows[number]) for number in self._kept]

    @property
    def link(self):
        return self._link

    @property
    def kind(self):
        if self._link is None:
            return "quiet"
        if 0 in self._kept:
            return "joined"
        return "lifted" if self._caps[0] == self.chain.frame.top else "ground"

    @property
    def held(self):
        return self._held

    @property
    def caps(self):
        return self._caps

    @property
    def kept(self):
        return self._kept

    @property
    def table(self):
        return self._table

    @property
    def answers(self):
        return [dict(answer) for answer in self._answers] if self._kept else None


def held_words(chain, deeds, link):
    """The word that was held while legs were caught, for each scan."""
    rest = Word.rest(chain.frame)
    word = rest
    held = []
    for deed in deeds:
        if deed == RESET:
            word = rest
        else:
            held.append(word)
            # Without a hurt link all heads are as they were sent, and change no digit.
            word = arrived_word(chain, deed[1], 0 if link is None else link, head_of(deed[2]))
    return tuple(held)
