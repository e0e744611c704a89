"""What deeds tell about the wires of a board and about the hurt link of its chain."""

from strayjoins.bench import Bench
from strayjoins.deeds import RESET
from strayjoins.errors import InvalidScan, NoLeg
from strayjoins.frames import is_member
from strayjoins.links import head_of, marks_of
from strayjoins.scans import Scans
from strayjoins.verdicts import Verdict
from strayjoins.words import Word


class HurtVerdict(Scans):
    """What some deeds tell of each two elements, and of each element and the hurt link."""

    def __init__(self, chain, deeds):
        super().__init__(chain, deeds)
        self._verdict = Verdict(self._table, self._answers) if self._kept else None
        if self._kept:
            self._standings = self._idle_standings()
        else:
            self._standings = rail_standings(chain.frame, self.kind)
        self._settled = self._is_known()

    @property
    def verdict(self):
        return self._verdict

    @property
    def settled(self):
        return self._settled

    def with_link(self, name):
        """Whether an element is with the hurt link: surely, maybe or not."""
        if not is_member(self.chain.frame, name):
            raise NoLeg(name)
        return self._standings[name]

    def says(self, one, other):
        """How two elements stand: together, apart or open."""
        stands = [self.with_link(name) for name in (one, other)]
        if one == other:
            return "together"
        if self._verdict is None:
            return "apart" if sorted([one, other]) == ["ground", "power"] else "open"
        if "surely" in stands and "maybe" not in stands:
            # Also for an element of another class: it is not with the link, and apart from what is.
            return "together" if stands[0] == stands[1] else "apart"
        return self._verdict.says(one, other)

    def _idle_standings(self):
        """How each element stands to the link by the kept scans and the heads of the spoiled ones."""
        verdict = self._verdict
        spoiled = [number for number in range(len(self._places)) if number not in self._kept]
        candidates = [name for name in verdict.mute if self._is_candidate(name, spoiled)]
        sure = []
        for scan in spoiled:
            holders = [name for name in candidates if self._held[scan][name] == self._caps[scan]]
            if not holders:
                raise InvalidScan(self._places[scan])
            if len(holders) == 1:
                sure.append(holders[0])
        listeners = [name for name in verdict.idle if name in self.chain.frame.listeners]
        standings = {name: "not" for name in self.chain.frame.members}
        standings.update({name: "maybe" for name in candidates + listeners})
        standings.update({name: "surely" for name in sure})
        return standings

    def _is_known(self):
        """Whether no driver is perhaps with the link, and no two drivers are open."""
        drivers = self.chain.frame.drivers
        if "maybe" in [self._standings[name] for name in drivers]:
            return False
        return "open" not in [self.says(one, other) for one in drivers for other in drivers]

    def _is_candidate(self, name, spoiled):
        """Whether a driver was driven at the level at which a scan is capped, or above, in all spoiled scans."""
        return all([self._held[scan][name] >= self._caps[scan] for scan in spoiled])


def rail_standings(frame, kind):
    """How each element stands to the link if all scans are lifted, if all are capped at 0, or if there are none."""
    standings = {name: "maybe" for name in frame.members}
    if kind == "lifted":
        # Only a block with power lifts; so does a link that is broken.
        return {name: "maybe" if frame.power and name != "ground" else "not" for name in standings}
    if kind == "ground":
        standings["ground"] = "surely"
        if frame.power:
            standings["power"] = "not"
    return standings


def deeds_for(words):
    """The deeds, without digits, that ask these words behind resets."""
    deeds = []
    for word in words:
        deeds.extend([RESET, ("scan", word), ("scan", Word.rest(word.frame))])
    return tuple(deeds)


def lone_words(frame):
    """The words that drive a single driver at 0, one for each driver."""
    return tuple([Word.lone(frame, name) for name in frame.drivers])


def agrees(chain, deeds, board, hurt=None):
    """Whether a board with a hurt link, or without one, gives what is looked at of these deeds."""
    scans = Scans(chain, deeds)
    bench = Bench(chain, board, hurt)
    number = 0
    for deed in deeds:
        if deed == RESET:
            bench.reset()
            continue
        digits = bench.scan(deed[1])
        if number in scans.kept and digits != deed[2]:
            return False
        if head_of(digits) != head_of(deed[2]) or marks_of(chain, digits) != marks_of(chain, deed[2]):
            return False
        number += 1
    return True
