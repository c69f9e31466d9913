"""What can follow at a point, and where a frame goes on when a called one has ended."""

from everyend.errors import BadEnd, BadPoint
from everyend.points import is_end, is_point
from everyend.steps import followed, resumed


def following(program, point):
    """What follows by a step at a point: on, an end, or a call."""
    if not is_point(program, point):
        raise BadPoint()
    return followed(program.sheet, point)


def back(program, point, end):
    """The point at which a frame goes on, or the end with which it ends, if what it called ends so."""
    if not is_point(program, point) or followed(program.sheet, point)[0] != "call":
        raise BadPoint()
    if not is_end(program, end):
        raise BadEnd()
    return resumed(program.sheet, point, end)
