"""Whether a value is the deeds of a bench: resets and scans, beginning with a reset."""

from strayjoins.errors import InvalidScan
from strayjoins.links import head_of, marks_of
from strayjoins.names import is_between
from strayjoins.words import is_word_of

RESET = ("reset",)


def check_deeds(chain, deeds):
    """Raises InvalidScan if any value is no deeds of a bench, with whatever hurt link or without one."""
    if not isinstance(deeds, (list, tuple)) or len(deeds) == 0 or deeds[0] != RESET:
        raise InvalidScan(0)
    for at, deed in enumerate(deeds):
        if deed != RESET and not is_scan(chain.frame, deed):
            raise InvalidScan(at)
    places = scan_places(deeds)
    for at in places:
        if not are_digits(chain, deeds[at][2]):
            raise InvalidScan(at)
    check_heads(chain, deeds, places)


def is_scan(frame, value):
    """Whether any value is a scan, with whatever digits."""
    return isinstance(value, tuple) and len(value) == 3 and value[0] == "scan" and is_word_of(frame, value[1])


def scan_places(deeds):
    """The indexes of the scans."""
    return tuple([at for at, deed in enumerate(deeds) if deed != RESET])


def are_digits(chain, value):
    """Whether any value is as many digits as leave in a scan."""
    if not isinstance(value, tuple) or len(value) != len(chain.cells) + 2:
        return False
    return all([is_between(digit, 0, chain.frame.top) for digit in value])


def check_heads(chain, deeds, places):
    """Raises InvalidScan if no link, hurt or not, makes the heads and the marks of these scans."""
    sound = (0, chain.frame.top)
    heads = {at: head_of(deeds[at][2]) for at in places}
    known = None
    for at, head in heads.items():
        link = told_link(chain, deeds[at][2])
        if link is None or not can_come(chain.frame, heads[places[0]], head, deeds[at - 1] == RESET):
            raise InvalidScan(at)
        if head != sound:
            if known not in (None, link):
                raise InvalidScan(at)
            known = link


def told_link(chain, digits):
    """The number of the link that is told by the head and the marks, 0 for a kept scan; None if they fit no link."""
    top = chain.frame.top
    head = head_of(digits)
    if head[0] != 0 and head != (top, top):
        return None
    sound = (0, top)
    marks = marks_of(chain, digits)
    # The parts ahead of the link, and they alone, have marks that come as the head does.
    link = len([mark for mark in marks if mark != sound])
    return link if marks == [head] * link + [sound] * (len(marks) - link) else None


def can_come(frame, first, head, fresh):
    """Whether a head can come back where the first one did; fresh tells that the scan is directly behind a reset."""
    if first in ((0, 0), (frame.top, frame.top)):
        # The link has a rail in its block, or it is broken: all scans are alike.
        return head == first and (frame.ground or first != (0, 0))
    # The block of the link has no rail: it reads top while the rest word is held.
    return head[0] == 0 and not (fresh and head[1] < frame.top)
