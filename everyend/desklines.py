"""The forms of the lines of a desk, and what it writes."""

from everyend.errors import NoLine
from everyend.names import are_names, is_name
from everyend.values import value_text

# By the first word: how many words there are, and whether any number of further ones may come.
FORMS = {
    "drop": (2, False),
    "call": (3, True),
    "give": (2, False),
    "go": (1, False),
    "look": (1, False),
    "price": (1, False),
    "ends": (3, True),
    "settles": (3, True),
    "names": (1, False),
    "undo": (1, False),
}


def parts_of_line(line):
    """The words of a line as a list; of a program line its first word, its name and its text."""
    if not isinstance(line, str) or "\n" in line:
        raise NoLine()
    if line.startswith("program "):
        parts = line.split(" ", 2)
        if len(parts) != 3 or not is_name(parts[1]):
            raise NoLine()
        return parts
    words = line.split(" ")
    if not are_names(words) or words[0] not in FORMS:
        raise NoLine()
    many, may_go_on = FORMS[words[0]]
    if len(words) < many or (len(words) > many and not may_go_on):
        raise NoLine()
    return words


def run_text(run):
    """How a run stands."""
    if run.end is not None:
        return "ended " + end_text(run.end)
    frames = " / ".join([frame_text(point) for point in run.frames])
    words = run.asks()
    return frames if words is None else " ? ".join([frames, " ".join(words)])


def frame_text(point):
    """A frame, by its point."""
    function, place, pairs, _ = point
    return " ".join([function, str(place), *[f"{name}={value_text(value)}" for name, value in pairs]])


def end_text(end):
    """An end, with its shared values."""
    kind, worth, shared = end
    return "; ".join([f"{kind} {value_text(worth)}", *[value_text(value) for value in shared]])


def priced_text(end, prices):
    """An end with its least and its greatest price."""
    low, high = prices
    dear = "-" if high is None else high
    return f"{end_text(end)} ({low} {dear})"
