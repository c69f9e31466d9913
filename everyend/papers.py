"""The cheapest, the dearest and the shortest runs to an end."""

from everyend.asking import sought
from everyend.errors import Grows, TooLong
from everyend.goals import PRICE, STEPS
from everyend.runs import MOST_STEPS
from everyend.scripts import Script
from everyend.sums import greatest_sums, least_sums, ways_at


def cheapest(program, call, end):
    """The answers of a run of the call to the end at the least price, in the fewest steps of all such runs."""
    goals, goal = sought(program, call, end)
    lows, _ = least_sums(goals.ways, PRICE)
    return shortest_answers(ways_at(goals.ways, lows), goal)


def dearest(program, call, end):
    """The answers of a run of the call to the end at the greatest price, in the fewest steps of all such runs."""
    goals, goal = sought(program, call, end)
    highs = greatest_sums(goals.ways, PRICE)
    if highs[goal] is None:
        raise Grows()
    return shortest_answers(ways_at(goals.ways, highs), goal)


def fewest_steps(program, call, end):
    """The number of steps of the shortest run of the call to the end."""
    goals, goal = sought(program, call, end)
    steps, _ = least_sums(goals.ways, STEPS)
    return steps[goal]


def shortest_answers(ways, goal):
    """The answers by which the goal is met in the fewest steps."""
    steps, chosen = least_sums(ways, STEPS)
    if steps[goal] > MOST_STEPS:
        raise TooLong()
    script = Script(chosen)
    script.meet(goal)
    return tuple(script.answers)
