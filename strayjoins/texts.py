"""Frames, words, boards and sessions as lines of text, and a chart of a verdict."""

from strayjoins.spread import spread, stake


def frame_text(frame):
    """A line for the frame, and a line for each leg."""
    first = ["frame", str(frame.top)] + list(frame.rails)
    return "\n".join([" ".join(first)] + [str(leg) for leg in frame.legs])


def word_text(word):
    """The drivers below top with their levels; rest for the rest word."""
    return str(word)


def board_text(board):
    """A line for each block of two elements or more."""
    return "\n".join([" ".join(["block", *block]) for block in board.blocks if len(block) > 1])


def session_text(table, answers):
    """The text of the frame, the words, and behind each word its answer."""
    lines = [frame_text(table.frame)]
    for word, answer in zip(table.words, answers):
        # No line tells the rest word of the table; a further word may be the rest word, too.
        if len(lines) > 1:
            lines.append(f"word {word_text(word)}")
        lines.append(answer_text(table.frame, answer))
    return "\n".join(lines)


def answer_text(frame, answer):
    """A line with what each leg reads."""
    return " ".join(["reads"] + [str(answer[name]) for name in frame.names])


def chart(verdict):
    """A line for each class: its bundles, its spread and its stake."""
    return "\n".join([chart_line(verdict, block) for block in verdict.classes])


def chart_line(verdict, block):
    """The bundles of a class, its spread and its stake."""
    bundles = " | ".join([" ".join(bundle) for bundle in verdict.bundles if bundle[0] in block])
    parts = len(spread(verdict, block[0]))
    held = len(stake(verdict, block[0])[1])
    return f"{bundles:<40} {parts:>3}{held:>3}"
