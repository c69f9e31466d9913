"""All points that are reached from a call, and all ends that can come from each of them."""

from heapq import heappop, heappush

from everyend.errors import TooMany
from everyend.points import known_entry
from everyend.steps import followed, resumed, words_asked

MOST_POINTS = 3000
# Ends with which a frame is asked how it goes on; their shared values are of no matter.
ANY_VALUE = ("value", "none", ())
ANY_ERROR = ("error", "none", ())


class Node:
    """A point that is reached, or a joint.

    A joint stands for frames that wait for the same called frame, by the same
    statement, and of which nothing is left in which they differ when it has
    ended with a value (or with an error, which they catch). Without joints,
    what many callers share would be worked out for each of them.
    """

    def __init__(self, number, point, kind):
        self.number = number
        # The point; of a joint that of one of its frames.
        self.point = point
        # What follows: "on", "end" or "call"; for a joint "joint".
        self.kind = kind
        # The ends that can come from here, each a bit at its number.
        self.mask = 0
        # Of a point: its price, the words that it asks for (or None), and where it leads;
        # where a call leads are its joints.
        self.price = 0
        self.words = None
        self.nexts = []
        # Of a point at which the frame ends: the number of the end.
        self.end = None
        # Of a call and of a joint: the entry of what is called.
        self.callee = None
        # Of a call: whether its errors are ends of the called frame, too.
        self.throws = False
        # Of a joint: the word with which the ends of the callee begin that it takes,
        # a mask of those that it has taken, and the nodes to which they lead by their numbers.
        self.takes = None
        self.taken = 0
        self.returns = {}
        # The nodes that have all ends of this one, the joints that wait for it, the calls that
        # have its errors; and whether these must still be told of new ends.
        self.users = []
        self.joints = []
        self.throwers = []
        self.has_grown = False

    def follower_numbers(self):
        """The numbers of the nodes that can be met next in a run, the frames that are begun too."""
        if self.kind == "joint":
            return [other.number for other in self.returns.values()]
        others = [other.number for other in self.nexts]
        return others + [self.callee.number] if self.kind == "call" else others


class Survey:
    """The nodes that are reached from a call, and their ends.

    nodes: by their numbers; points: a dict from the points to their nodes;
    entry: the node of the entry; ends: by their numbers; end_numbers: a dict
    from the ends; errors: a mask of those ends that are errors.
    """

    def __init__(self, sheet, call):
        self.sheet = sheet
        self.nodes = []
        self.points = {}
        self.ends = []
        self.end_numbers = {}
        self.errors = 0
        self._joints = {}
        # The points that were not looked at, and the numbers (turned below 0) of the nodes that have grown.
        self._fresh = []
        self._grown = []
        self.entry = self._node_at(known_entry(sheet, call))
        self._explore()

    def ends_of(self, node):
        """The list of the ends that can come from a node."""
        return [self.ends[number] for number in numbers_in(node.mask)]

    def _explore(self):
        """Look at all points, and tell each node of all its ends."""
        while self._fresh or self._grown:
            if self._fresh:
                self._follow(self._fresh.pop())
            else:
                # The node that was met last is mostly led to by the others: so most nodes grow just once.
                self._spread(self.nodes[-heappop(self._grown)])

    def _node_at(self, point):
        """The node of a point, a new one if it is met for the first time."""
        if point not in self.points:
            if len(self.points) == MOST_POINTS:
                raise TooMany(MOST_POINTS)
            node = self._new_node(point, None)
            self.points[point] = node
            self._fresh.append(node)
        return self.points[point]

    def _new_node(self, point, kind):
        """A further node."""
        node = Node(len(self.nodes), point, kind)
        self.nodes.append(node)
        return node

    def _end_number(self, end):
        """The number of an end."""
        if end not in self.end_numbers:
            number = len(self.ends)
            self.end_numbers[end] = number
            self.ends.append(end)
            if end[0] == "error":
                self.errors += 1 << number
        return self.end_numbers[end]

    def _follow(self, node):
        """See what follows at a point."""
        told = followed(self.sheet, node.point)
        node.kind = told[0]
        if told[0] == "on":
            node.price = told[1]
            node.words = words_asked(self.sheet, node.point)
            for point in told[2]:
                self._lead(node, self._node_at(point))
        elif told[0] == "end":
            node.end = self._end_number(told[1])
            self._gain(node, 1 << node.end)
        else:
            node.callee = self._node_at(told[1])
            self._wait(node)

    def _wait(self, node):
        """See how a frame can go on that has called."""
        after = resumed(self.sheet, node.point, ANY_VALUE)
        self._lead(node, self._joint("value", node, after))
        after = resumed(self.sheet, node.point, ANY_ERROR)
        if after == ANY_ERROR:
            node.throws = True
            node.callee.throwers.append(node)
            self._gain(node, node.callee.mask & self.errors)
        else:
            self._lead(node, self._joint("error", node, after))

    def _joint(self, takes, node, after):
        """The joint of a call, for values or for errors; after is where any of these leads."""
        # The statement tells the name that gets what has come: the rest of the locals stands in after.
        key = (takes, node.callee.number, node.point[1], after)
        if key not in self._joints:
            joint = self._new_node(node.point, "joint")
            joint.callee = node.callee
            joint.takes = takes
            self._joints[key] = joint
            node.callee.joints.append(joint)
            self._take(joint)
        return self._joints[key]

    def _take(self, joint):
        """See where the further ends of its callee lead the frames of a joint."""
        let = self.errors if joint.takes == "error" else ~self.errors
        come = joint.callee.mask & let
        for number in numbers_in(come & ~joint.taken):
            other = self._node_at(resumed(self.sheet, joint.point, self.ends[number]))
            joint.returns[number] = other
            other.users.append(joint)
            self._gain(joint, other.mask)
        joint.taken = come

    def _lead(self, node, other):
        """A node leads to another one, and has its ends."""
        node.nexts.append(other)
        other.users.append(node)
        self._gain(node, other.mask)

    def _gain(self, node, mask):
        """A node has these ends, too."""
        if mask & ~node.mask:
            node.mask = node.mask | mask
            if not node.has_grown:
                node.has_grown = True
                heappush(self._grown, -node.number)

    def _spread(self, node):
        """Tell those that have the ends of a node of those that it has got."""
        node.has_grown = False
        for user in node.users:
            self._gain(user, node.mask)
        for joint in node.joints:
            self._take(joint)
        for caller in node.throwers:
            self._gain(caller, node.mask & self.errors)


def numbers_in(mask):
    """The numbers of the bits in a mask, ascending."""
    numbers = []
    while mask:
        lowest = mask & -mask
        numbers.append(lowest.bit_length() - 1)
        mask = mask ^ lowest
    return numbers
