"""What is asked of all runs of a call: the errors of the call and of the end, and what is then worked out."""

from everyend.errors import BadCall, BadEnd, NeverComes
from everyend.goals import Goals
from everyend.points import is_call, is_end
from everyend.surveys import Survey


def surveyed(program, call):
    """The survey of a call."""
    if not is_call(program, call):
        raise BadCall()
    return Survey(program.sheet, call)


def surveyed_for(program, call, end):
    """The survey of a call, for an end that may come or not."""
    if not is_call(program, call):
        raise BadCall()
    if not is_end(program, end):
        raise BadEnd()
    return Survey(program.sheet, call)


def sought(program, call, end):
    """The goals of a call, and among them the number of the goal to come from its entry to the end."""
    survey = surveyed_for(program, call, end)
    goals = Goals(survey)
    goal = goals.numbers[survey.entry.number].get(survey.end_numbers.get(end))
    if goal is None:
        raise NeverComes()
    return goals, goal
