"""Whether runs of a call go on for ever, papers that show it, and the longest runs if none does."""

from everyend.asking import surveyed
from everyend.goals import STEPS, Goals
from everyend.lassos import find_lasso
from everyend.points import is_call
from everyend.rings import has_ring
from everyend.runs import MOST_STEPS
from everyend.scripts import Script
from everyend.sums import greatest_sums, least_sums
from everyend.traces import Trace, is_paper


def going_on(program, call):
    """A going-on paper of a call, None if no run of it goes on for ever."""
    survey = surveyed(program, call)
    if not goes_on(survey):
        return None
    goals = Goals(survey)
    steps, chosen = least_sums(goals.ways, STEPS)
    pivots = [node.kind != "joint" for node in survey.nodes]
    net = net_of(survey, goals, steps)
    lasso = find_lasso(net, survey.entry.number, [0] * len(pivots), pivots, MOST_STEPS)
    script = Script(chosen)
    low = script.walk_round(lasso)
    return tuple(script.answers), low, script.steps


def always_ends(program, call):
    """Whether each run of a call ends."""
    return not goes_on(surveyed(program, call))


def longest(program, call):
    """The greatest number of steps of all runs of a call, None if there is no greatest one."""
    survey = surveyed(program, call)
    if goes_on(survey):
        return None
    goals = Goals(survey)
    steps = greatest_sums(goals.ways, STEPS)
    return max([steps[goal] for goal in goals.numbers[survey.entry.number].values()])


def goes_on(survey):
    """Whether some run goes on for ever: it meets a node again, above frames that do not end between."""
    nexts = follower_rows(survey)
    return has_ring(list(range(len(nexts))), nexts)


def follower_rows(survey):
    """For each node the list of the numbers of those that can be met next."""
    return [node.follower_numbers() for node in survey.nodes]


def net_of(survey, goals, steps):
    """The net of the nodes (see lassos). All edges lead to even sides: so each ring has what rings must have."""
    net = []
    for node in survey.nodes:
        row = edges_of_joint(node, goals, steps) if node.kind == "joint" else edges_of_point(node)
        net.append(row)
        net.append(row)
    return net


def edges_of_point(node):
    """The edges of a point: its step alone is done."""
    edges = []
    for at, number in enumerate(node.follower_numbers()):
        answer = None if node.words is None else node.words[at]
        edges.append((2 * number, 1, 1, answer, None, None))
    return edges


def edges_of_joint(node, goals, steps):
    """The edges of a joint: the called frame is run to its end."""
    edges = []
    for end, other in node.returns.items():
        goal = goals.numbers[node.callee.number][end]
        edges.append((2 * other.number, steps[goal], 0, None, goal, None))
    return edges


def is_going_on(program, call, thing):
    """Whether this is a going-on paper of the call."""
    if not is_call(program, call) or not is_paper(thing):
        return False
    answers, low, high = thing
    trace = Trace(program, call, answers, high)
    if trace.end is not None or trace.steps < high or trace.used != len(answers):
        return False
    return trace.comes_back(low, high)
