"""What frames can come to, and how.

A goal is a node of a survey and an end that can come from it: to be met, a
frame that stands at this node comes to this end. A way to meet it begins with
one step and leaves further goals, which are met one after the other: a tuple
(price, steps, answer, goals) with the price of the step, 1 (0 at a joint,
which is no point), the word that it answers or None, and the numbers of the
goals.
"""

from everyend.surveys import numbers_in

PRICE = 0
STEPS = 1


class Goals:
    """All goals of a survey.

    numbers: for each node a dict from the numbers of its ends to its goals;
    ways: for each goal the list of its ways; at_point, at_call: for each goal
    whether its node is a point, and whether it is a call.
    """

    def __init__(self, survey):
        self.numbers = []
        self.ways = []
        self.at_point = []
        self.at_call = []
        self._errors = survey.errors
        for node in survey.nodes:
            self._number(node)
        for node in survey.nodes:
            self._find_ways(node)

    def called_by(self, goal, way):
        """How many of the goals that a way of a goal leaves, the first ones, are met by a called frame."""
        if not self.at_point[goal]:
            return 1
        # From a call a way leads to a joint, or to what is called, with the errors of which the frame ends, too.
        return 1 if self.at_call[goal] and self.at_point[way[3][0]] else 0

    def _number(self, node):
        """Give numbers to the goals of a node."""
        ends = numbers_in(node.mask)
        first = len(self.ways)
        self.numbers.append({end: first + at for at, end in enumerate(ends)})
        self.ways.extend([[] for _ in ends])
        self.at_point.extend([node.kind != "joint" for _ in ends])
        self.at_call.extend([node.kind == "call" for _ in ends])

    def _find_ways(self, node):
        """Find the ways to all goals of a node."""
        own = self.numbers[node.number]
        if node.kind == "joint":
            for end, other in node.returns.items():
                self._come_back(node, end, other)
        elif node.kind == "end":
            self.ways[own[node.end]].append((0, 1, None, ()))
        for at, other in enumerate(node.nexts):
            answer = None if node.words is None else node.words[at]
            for end, goal in self.numbers[other.number].items():
                self.ways[own[end]].append((node.price, 1, answer, (goal,)))
        if node.throws:
            for end, goal in self.numbers[node.callee.number].items():
                if self._errors >> end & 1:
                    self.ways[own[end]].append((0, 1, None, (goal,)))

    def _come_back(self, joint, end, other):
        """The ways by an end of what is called, which leads to another node."""
        own = self.numbers[joint.number]
        called = self.numbers[joint.callee.number][end]
        for last, goal in self.numbers[other.number].items():
            self.ways[own[last]].append((0, 0, None, (called, goal)))
