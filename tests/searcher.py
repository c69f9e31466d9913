"""A second way to tell of all runs, to compare with: it searches through whole runs, by what following and back tell.

A state is the tuple of the points of all frames, the lowest one first, or the end of the run. Searches go through all
states that can be met, so they are for calls that meet few; walks go through the begins of all runs, as far as is let.
"""

import heapq

from everyend.following import back, following
from everyend.points import entry
from everyend.runs import Run


def has_ended(state):
    return state[0] in ("value", "error")


def ahead(program, state):
    """The pairs (price, state) to which a step can lead; for an ask in the order of its words."""
    *below, top = state
    told = following(program, top)
    if told[0] == "call":
        return [(0, (*state, told[1]))]
    if told[0] == "on":
        return [(told[1], (*below, point)) for point in told[2]]
    end = told[1]
    while below:
        end = back(program, below.pop(), end)
        if len(end) == 4:
            return [(0, (*below, end))]
    return [(0, end)]


class Search:
    """All states that can be met from a call: edges is a dict from them, None if there are too many."""

    def __init__(self, program, call, most=400, deepest=12):
        self.start = (entry(program, call),)
        self.edges, self.met = {}, {}
        waiting = [self.start]
        while waiting and self.edges is not None:
            state = waiting.pop()
            if state not in self.edges:
                if len(self.edges) == most or len(state) > deepest:
                    self.edges = None
                else:
                    self.edges[state] = ahead(program, state)
                    waiting.extend(other for _, other in self.edges[state] if not has_ended(other))

    def met_from(self, state):
        """All states, ends too, that can be met from a state, and itself."""
        if state in self.met:
            return self.met[state]
        met, waiting = {state}, [state]
        while waiting:
            for _, other in self.edges.get(waiting.pop(), ()):
                if other not in met:
                    met.add(other)
                    waiting.append(other)
        self.met[state] = met
        return met

    def points(self):
        return {point for state in self.edges for point in state}

    def ends_from(self, state):
        return {other for other in self.met_from(state) if has_ended(other)}

    def goes_on(self):
        return any(state in self.met_from(other) for state in self.edges for _, other in self.edges[state])

    def least(self, cost):
        """For each end the least sum of costs; cost tells that of a step from its price."""
        heap, count, done = [(cost(0, 0), 0, self.start)], 0, {}
        while heap:
            sums, _, state = heapq.heappop(heap)
            if state not in done:
                done[state] = sums
                for price, other in self.edges.get(state, ()):
                    count += 1
                    heapq.heappush(heap, (tuple(map(sum, zip(sums, cost(price, 1)))), count, other))
        return {state: sums for state, sums in done.items() if has_ended(state)}

    def fewest_steps(self):
        return {end: sums[0] for end, sums in self.least(lambda price, steps: (steps,)).items()}

    def cheapest(self):
        """For each end the least price and the fewest steps of all runs at this price."""
        return self.least(lambda price, steps: (price, steps))

    def grows(self, end):
        """Whether states that lead to the end are met again and again at a price."""
        on_way = {state: end in self.met_from(state) for state in self.edges}
        return any(price and on_way.get(other) and state in self.met_from(other)
                   for state in self.edges for price, other in self.edges[state])

    def dearest(self, end):
        """The greatest price and the fewest steps of all runs at this price, of an end that does not grow."""
        best, is_new = {self.start: (0, 0)}, True
        while is_new:
            is_new = False
            for state in [state for state in self.edges if state in best]:
                for price, other in self.edges[state]:
                    sums = (best[state][0] - price, best[state][1] + 1)
                    if end in self.met_from(other) and (other not in best or sums < best[other]):
                        best[other], is_new = sums, True
        return -best[end][0], best[end][1]

    def longest(self):
        """The greatest number of steps, if all runs end."""
        told = {}

        def count(state):
            if state not in told:
                told[state] = max([1 + count(other) for _, other in self.edges.get(state, ())], default=0)
            return told[state]
        return count(self.start)


class TooFar(Exception):
    """There are too many begins of runs."""


def walks(program, call, most, budget):
    """The begins of all runs, ended runs too, of at most so many steps: lists of tuples (price, state, frames, way),
    one behind each step, with a number of its own for each frame, and the number of the way that the step took."""
    waiting = [([(0, (entry(program, call),), (0,), 0)], 1)]
    while waiting:
        walk, fresh = waiting.pop()
        budget -= 1
        if budget < 0:
            raise TooFar
        yield walk
        price, state, frames, _ = walk[-1]
        if has_ended(state) or len(walk) > most:
            continue
        for way, (paid, other) in enumerate(ahead(program, state)):
            many = 0 if has_ended(other) else len(other)
            is_called = many > len(frames)
            own = (*frames, fresh) if is_called else frames[:many]
            waiting.append(([*walk, (price + paid, other, own, way)], fresh + is_called))


def stays(walk, low, high):
    """Whether the top frames stand at one point behind low and high steps, and no frame of low ends between."""
    frames = walk[low][2]
    return walk[low][1][-1] == walk[high][1][-1] and all(
        frame in walk[step][2] for frame in frames for step in range(low, high + 1))


def is_pumped(program, walk, low, high):
    """Whether low and high make a growing paper of a run that has ended (6.2)."""
    if not 0 <= low < high < len(walk) - 1 or not stays(walk, low, high):
        return False
    told = []
    for many in (low, high):
        top = walk[many][2][-1]
        step = next(step for step in range(many, len(walk)) if top not in walk[step][2])
        told.append((step, following(program, walk[step - 1][1][-1])[1]))
    (first, end), (last, other) = told
    return end == other and walk[high][0] - walk[low][0] + walk[first][0] - walk[last][0] > 0


def answers_of(program, call, walk):
    """The answers by which a run begins so."""
    run, answers = Run(program, call), []
    for _, _, _, way in walk[1:]:
        words = run.asks()
        if words:
            answers.append(words[way])
        run.step(words[way] if words else None)
    return tuple(answers)


def within(program, call, frames, most=1500):
    """Of all runs while they have at most so many frames: for each end the fewest steps, and the greatest number of
    frames that is met, a call too many counted; None if they meet too many states."""
    start = (entry(program, call),)
    fewest, highest, row, met = {}, 1, [start], {start}
    for steps in range(most):
        later = []
        for state in row:
            for _, other in ahead(program, state):
                if has_ended(other):
                    fewest.setdefault(other, steps + 1)
                    continue
                highest = max(highest, len(other))
                if len(other) <= frames and other not in met:
                    met.add(other)
                    later.append(other)
        row = later
        if len(met) > most:
            return None
        if not row:
            return fewest, highest
    return None
