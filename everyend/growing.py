"""Growing papers, which show that there are runs to an end above any price."""

from everyend.asking import sought
from everyend.goals import PRICE, STEPS
from everyend.lassos import find_lasso
from everyend.points import is_call, is_end
from everyend.runs import MOST_STEPS
from everyend.scripts import Script
from everyend.sums import greatest_sums, least_sums, sum_with
from everyend.traces import Trace, is_paper


def growing(program, call, end):
    """A growing paper of a call and an end, None if there is a greatest price."""
    goals, goal = sought(program, call, end)
    if greatest_sums(goals.ways, PRICE)[goal] is not None:
        return None
    ways = with_paid_goals(goals.ways)
    steps, chosen = least_sums(ways, STEPS)
    lasso = find_lasso(net_of(ways, steps), goal, steps[::2], goals.at_point, MOST_STEPS)
    script = Script(chosen)
    low = script.walk_round(lasso)
    high = script.steps
    # The ring has led to its pivot again: from there the run goes on the shortest way.
    _, ring = lasso
    script.meet(ring[-1][0])
    script.finish()
    return tuple(script.answers), low, high


def with_paid_goals(ways):
    """The ways to goals of which each stands twice: the goal 2 * g is g, 2 * g + 1 is g at a price above 0."""
    double = []
    for row in ways:
        double.append([(price, steps, answer, tuple([2 * other for other in goals]))
                       for price, steps, answer, goals in row])
        double.append([paid for way in row for paid in paid_ways(way)])
    return double


def paid_ways(way):
    """The ways at a price above 0 that a way gives: the step costs something, or one of the goals that it leaves."""
    price, steps, answer, goals = way
    rows = [[2 * other for other in goals]]
    if price == 0:
        rows = [[2 * other + 1 if place == at else 2 * other for place, other in enumerate(goals)]
                for at in range(len(goals))]
    return [(price, steps, answer, tuple(row)) for row in rows]


def net_of(ways, steps):
    """The net of the goals (see lassos): from each goal to those that its ways leave; steps are the fewest for each.

    The odd side of a node is the goal at a price above 0, that on the way has
    still to come: an edge to an even side pays it, or leaves a goal that does.
    """
    return [[edge for way in row for edge in edges_of(way, steps)] for row in ways]


def edges_of(way, steps):
    """The edges of a way: to each of its goals, if the others can be met."""
    edges = []
    for at, goal in enumerate(way[3]):
        before, after = way[3][:at], way[3][at + 1:]
        cost = sum_with(way[STEPS], before + after, steps)
        if cost is not None:
            edges.append((goal, cost, way[STEPS], way[2], only_one(before), only_one(after)))
    return edges


def only_one(goals):
    """The only one of these, None if there is none."""
    return goals[0] if goals else None


def is_growing(program, call, end, thing):
    """Whether this is a growing paper of the call and the end."""
    if not is_call(program, call) or not is_end(program, end) or not is_paper(thing):
        return False
    answers, low, high = thing
    trace = Trace(program, call, answers, MOST_STEPS)
    if trace.end != end or trace.used != len(answers) or high >= trace.steps:
        return False
    if not trace.comes_back(low, high):
        return False
    first, last = trace.step_of_end(low), trace.step_of_end(high)
    if trace.end_by(first) != trace.end_by(last):
        return False
    paid = trace.prices
    return paid[high] - paid[low] + paid[first] - paid[last] > 0
