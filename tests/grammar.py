"""What fits in a line of text, told word by word; and texts that are changed by chance.

A rule is passed a whole line and the index of a word in it, and tells whether this word fits behind the words
before it, and whether the line may end ahead of it.
"""

import re

KINDS = ("driver", "listener")


def is_name(word):
    return re.fullmatch("[a-z]{1,8}", word) is not None and word not in ("ground", "power", "nothing")


def is_number(word, least, most):
    return re.fullmatch("0|[1-9][0-9]?", word) is not None and least <= int(word) <= most


def frame_line(line, at):
    fits = [
        lambda: line[0] == "frame", lambda: is_number(line[1], 1, 3), lambda: line[2] in ("ground", "power"),
        lambda: line[2] == "ground" and line[3] == "power",
    ]
    return at < 4 and fits[at](), at >= 2


def leg_line(taken):
    def rule(line, at):
        fits = [lambda: line[0] in KINDS and len(taken) < 40, lambda: is_name(line[1]) and line[1] not in taken]
        return at < 2 and fits[at](), at == 2
    return rule


def reads_line(frame):
    def rule(line, at):
        if at == 0:
            return line[0] == "reads", False
        return at <= len(frame.names) and is_number(line[at], 0, frame.top), at == len(frame.names) + 1
    return rule


def levels(frame, first):
    """The words of a word from the index first on."""
    def rule(line, at):
        if line[first:] == ["rest"]:
            return at == first, at > first
        found = re.fullmatch("([a-z]+)=(.*)", line[at])
        before = [word.split("=")[0] for word in line[first:at]]
        fits = found and found[1] in frame.drivers and found[1] not in before and is_number(found[2], 0, frame.top)
        return bool(fits), at > first
    return rule


def word_line(frame):
    def rule(line, at):
        return (line[0] == "word", False) if at == 0 else levels(frame, 1)(line, at)
    return rule


def block_line(frame, taken):
    def rule(line, at):
        if at == 0:
            return line[0] == "block", False
        word, before = line[at], line[1:at]
        rails = [one for one in before + [word] if one in ("ground", "power")]
        return word in frame.members and word not in before and word not in taken and (word not in rails or len(rails) < 2), at >= 3
    return rule


def line_fault(line, rule):
    """The index of the first word that does not fit, the number of the words if one is missing; None if all is right."""
    for at in range(len(line)):
        if not rule(line, at)[0]:
            return at
    return None if rule(line + ["?"], len(line))[1] else len(line)


def frame_fault(lines):
    """The fault of the lines of a frame, as a pair; None if they are right."""
    taken = []
    for at, line in enumerate(lines):
        found = line_fault(line, leg_line(taken) if at else frame_line)
        if found is not None:
            return (at, found)
        if at:
            taken.append(line[1])
    return None


def board_fault(frame, text):
    taken = []
    for at, line in enumerate([line.split(" ") for line in text.split("\n")] if text else []):
        found = line_fault(line, block_line(frame, taken))
        if found is not None:
            return (at, found)
        taken += line[1:]
    return None


def session_fault(text, make_frame):
    lines = [line.split(" ") for line in text.split("\n")]
    start = ([at for at, line in enumerate(lines) if line[0] == "reads"] + [len(lines)])[0]
    if start == 0:
        return (0, 0)
    found = frame_fault(lines[:start])
    if found is not None:
        return found
    frame = make_frame("\n".join(" ".join(line) for line in lines[:start]))
    for at, line in enumerate(lines[start:]):
        if at > 118:
            return (start + at, 0)
        found = line_fault(line, word_line(frame) if at % 2 else reads_line(frame))
        if found is not None:
            return (start + at, found)
    return (len(lines), 0) if (len(lines) - start) % 2 == 0 else None


def changed(random_one, text, words):
    """The text with a word, a line or a sign changed, added, doubled or left out."""
    lines = [line.split(" ") for line in text.split("\n")]
    at = random_one.randrange(len(lines))
    line = lines[at]
    place = random_one.randrange(len(line) + 1)
    kind = random_one.randrange(9)
    if kind == 0:
        line.insert(place, random_one.choice(words))
    elif kind == 1:
        del line[place:place + 1]
    elif kind == 2:
        line[place:place + 1] = [random_one.choice(words)]
    elif kind == 3:
        lines.insert(at, random_one.choice(lines))
    elif kind == 4:
        del lines[at]
    elif kind == 5:
        lines[at] = line[:place]
    elif kind == 6:
        random_one.shuffle(lines)
    elif kind == 7:
        line[1:] = random_one.sample(line[1:], len(line) - 1)
    text = "\n".join(" ".join(line) for line in lines)
    if kind == 8:
        sign = random_one.randrange(len(text) + 1)
        text = text[:sign] + random_one.choice([" ", "\n", "=", "0", "1", "9", "a", "A", "-", ""]) + text[sign + random_one.randrange(2):]
    return text
