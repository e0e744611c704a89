"""What a hurt link does to the digits of a scan.

All digits that pass the link in one scan meet the same. So the head, as it comes back, tells what
becomes of each of them: it comes back as 0, top if no link does anything, as 0, b from a link that
passes b at most, and as top, top from one that lifts.
"""


def passed(head, digit):
    """What becomes of a digit that passes the link from which the head comes back like this."""
    return max(head[0], min(digit, head[1]))


def cell_parts(chain):
    """The number of its part for each cell."""
    # Behind the legs of a part stand its two mark cells.
    return [number for number, part in enumerate(chain.parts) for _ in range(len(part) + 2)]


def leaving_digits(chain, caught, link, head):
    """The digits that leave if these were caught, the last cell first, and then the head."""
    digits = [passed(head, digit) if part < link else digit for part, digit in zip(cell_parts(chain), caught)]
    return (*digits[::-1], *head)


def arrived_word(chain, word, link, head):
    """The word that is held behind a scan for which this word was sent."""
    sent = chain.entering(word)[:1:-1]
    digits = [passed(head, digit) if part >= link else digit for part, digit in zip(cell_parts(chain), sent)]
    return chain.arrived(digits)


def head_of(digits):
    """The head among the digits that left."""
    return digits[-2:]


def marks_of(chain, digits):
    """The two marks of each part among the digits that left."""
    caught = digits[-3::-1]
    marks = []
    end = 0
    for part in chain.parts:
        end += len(part) + 2
        marks.append(caught[end - 2:end])
    return marks


def read_answer(chain, digits):
    """What the legs read by the digits that left."""
    return {cell: digit for cell, digit in zip(chain.cells, digits[-3::-1]) if isinstance(cell, str)}
