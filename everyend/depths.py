"""How many frames runs must have at one time, and how many they can have."""

from everyend.asking import sought, surveyed
from everyend.errors import TooLong
from everyend.goingon import follower_rows
from everyend.layers import Layers
from everyend.rings import rings_of
from everyend.runs import MOST_STEPS
from everyend.scripts import Script


def depth(program, call, end):
    """The least depth of all runs of a call to an end."""
    layers, _ = layers_to(program, call, end)
    return layers.deep


def shallow(program, call, end):
    """The answers of a run of the call to the end of the least depth, in the fewest steps of all such runs."""
    layers, goal = layers_to(program, call, end)
    steps, number = layers.met[goal]
    if steps > MOST_STEPS:
        raise TooLong()
    script = Script(layers.chosen)
    script.meet(number)
    return tuple(script.answers)


def layers_to(program, call, end):
    """The layers of a call with just as many frames as suffice for the end, and the number of its goal."""
    goals, goal = sought(program, call, end)
    layers = Layers(goals)
    while layers.met[goal] is None:
        layers.grow()
    return layers, goal


def deepest(program, call):
    """The greatest number of frames that any run of a call has at one time, None if there is no greatest one."""
    survey = surveyed(program, call)
    nexts = follower_rows(survey)
    frames = [0] * len(nexts)
    for ring in rings_of(list(range(len(nexts))), nexts):
        most = most_frames(survey, nexts, frames, ring)
        if most is None:
            return None
        for number in ring:
            frames[number] = most
    return frames[survey.entry.number]


def most_frames(survey, nexts, frames, ring):
    """The greatest number of frames from the nodes of a ring on, that of the node counted, if those behind the ring
    have theirs; None if there is none."""
    inside = {number: True for number in ring}
    most = 1
    for number in ring:
        node = survey.nodes[number]
        for other in nexts[number]:
            is_called = node.kind == "call" and other == node.callee.number
            if is_called and other in inside:
                return None
            # Those that stand inside add nothing; they have 0 as yet.
            most = max(most, frames[other] + 1 if is_called else frames[other])
    return most
