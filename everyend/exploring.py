"""Which points are reached from a call, and which ends it can come to."""

from everyend.asking import surveyed, surveyed_for
from everyend.points import end_order


def reached(program, call):
    """How many points are reached from a call."""
    return len(surveyed(program, call).points)


def ends(program, call):
    """The list of all ends to which a call can come, in their order."""
    survey = surveyed(program, call)
    return sorted(survey.ends_of(survey.entry), key=end_order)


def can_come(program, call, end):
    """Whether a call can come to an end."""
    survey = surveyed_for(program, call, end)
    return end in survey.ends_of(survey.entry)
