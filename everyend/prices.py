"""The least and the greatest prices of all runs."""

from everyend.asking import sought, surveyed
from everyend.goals import PRICE, Goals
from everyend.sums import greatest_sums, least_sums


def price_table(program, call):
    """The price table of a call that has just what is reached and can come, at just the prices that are right."""
    survey = surveyed(program, call)
    rows = rows_at(survey, list(survey.points.values()))
    return {point: row for point, row in zip(survey.points, rows)}


def entry_row(program, call):
    """What this price table has at the entry of the call: a dict from ends to pairs of prices."""
    survey = surveyed(program, call)
    return rows_at(survey, [survey.entry])[0]


def rows_at(survey, nodes):
    """For each of these nodes a dict from the ends that can come to pairs of the least and the greatest price."""
    goals = Goals(survey)
    lows, _ = least_sums(goals.ways, PRICE)
    highs = greatest_sums(goals.ways, PRICE)
    rows = []
    for node in nodes:
        own = goals.numbers[node.number]
        rows.append({survey.ends[end]: (lows[goal], highs[goal]) for end, goal in own.items()})
    return rows


def least(program, call, end):
    """The least price of all runs of a call to an end."""
    goals, goal = sought(program, call, end)
    sums, _ = least_sums(goals.ways, PRICE)
    return sums[goal]


def greatest(program, call, end):
    """The greatest price of all runs of a call to an end, None if there is no greatest one."""
    goals, goal = sought(program, call, end)
    return greatest_sums(goals.ways, PRICE)[goal]
