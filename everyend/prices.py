"""The least and the greatest prices of all runs."""

from everyend.asking import sought, surveyed
from everyend.goals import PRICE, Goals
from everyend.sums import greatest_sums, least_sums


def price_table(program, call):
    """The price table of a call that has just what is reached and can come, at just the prices that are right."""
    survey = surveyed(program, call)
    goals = Goals(survey)
    lows, _ = least_sums(goals.ways, PRICE)
    highs = greatest_sums(goals.ways, PRICE)
    table = {}
    for point, node in survey.points.items():
        own = goals.numbers[node.number]
        table[point] = {survey.ends[end]: (lows[goal], highs[goal]) for end, goal in own.items()}
    return table


def least(program, call, end):
    """The least price of all runs of a call to an end."""
    goals, goal = sought(program, call, end)
    sums, _ = least_sums(goals.ways, PRICE)
    return sums[goal]


def greatest(program, call, end):
    """The greatest price of all runs of a call to an end, None if there is no greatest one."""
    goals, goal = sought(program, call, end)
    return greatest_sums(goals.ways, PRICE)[goal]
