"""How few frames suffice to meet goals, and in how few steps they do."""

from heapq import heappop, heappush

from everyend.goals import STEPS


class Layers:
    """What can be met with at most so many frames: layer by layer, each of which lets one frame more.

    deep: how many frames; met: for each goal None, or a pair (steps, number) of the
    fewest steps and of the number of a way in chosen by which they suffice;
    chosen: a list of ways as scripts take them, which leave numbers of further
    chosen ways for goals.
    """

    def __init__(self, goals):
        self.deep = 0
        self.met = [None] * len(goals.ways)
        self.chosen = []
        # What was met with one frame less: so much is let to a frame that is called.
        self._above = list(self.met)
        # For each goal its ways, with the goals that a called frame meets apart from the others.
        self._ways = []
        # For each goal the pairs (goal, number of its way) that leave it, to the same frame and to a called one.
        self._users = [[] for _ in self.met]
        self._callers = [[] for _ in self.met]
        # The ways that may be better than those that were chosen: tuples (steps, goal, number of the way).
        self._heap = []
        for goal in range(len(self.met)):
            self._add_ways(goals, goal)

    def grow(self):
        """Let one frame more."""
        self.deep += 1
        changed = []
        # No way is without steps: what is taken off the heap first is the least of its goal in this layer.
        while self._heap:
            steps, goal, at = heappop(self._heap)
            if self.met[goal] is None or steps < self.met[goal][0]:
                changed.append(goal)
                self._choose(steps, goal, at)
                self._offer(self._users[goal])
        for goal in changed:
            self._above[goal] = self.met[goal]
        for goal in changed:
            self._offer(self._callers[goal])

    def _add_ways(self, goals, goal):
        """Note the ways of a goal, and which goals they leave."""
        row = []
        for at, way in enumerate(goals.ways[goal]):
            many = goals.called_by(goal, way)
            row.append((way, way[3][:many], way[3][many:]))
            for other in way[3][:many]:
                self._callers[other].append((goal, at))
            for other in way[3][many:]:
                self._users[other].append((goal, at))
            if not way[3]:
                heappush(self._heap, (way[STEPS], goal, at))
        self._ways.append(row)

    def _choose(self, steps, goal, at):
        """A goal is met by a way of it, in so many steps."""
        (price, own_steps, answer, _), _, _ = self._ways[goal][at]
        numbers = tuple([number for _, number in self._left(goal, at)])
        self.met[goal] = (steps, len(self.chosen))
        self.chosen.append((price, own_steps, answer, numbers))

    def _offer(self, users):
        """See whether these ways are now better than those that were chosen."""
        for goal, at in users:
            left = self._left(goal, at)
            if None not in left:
                steps = self._ways[goal][at][0][STEPS] + sum([many for many, _ in left])
                if self.met[goal] is None or steps < self.met[goal][0]:
                    heappush(self._heap, (steps, goal, at))

    def _left(self, goal, at):
        """How the goals are met that a way leaves: a list of such pairs as in met, and of None."""
        _, called, own = self._ways[goal][at]
        return [self._above[other] for other in called] + [self.met[other] for other in own]
