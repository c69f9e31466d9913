"""Lassos: a path from a start to a pivot, and from there a ring back to the pivot.

A net has two sides of each node a: 2 * a and 2 * a + 1. Paths go along the
even sides alone. A ring goes from the odd side of its pivot to the even one,
so by an edge between unlike sides: what rings must have, these edges give.
For each side the net has the list of its edges, tuples (side, cost, steps,
answer, before, after) with the side to which the edge leads; what stands
behind the cost tells a script what is done there (answer, before and after
may be None).
"""

from heapq import heappop, heappush

from everyend.errors import TooLong
from everyend.rings import rings_of


def find_lasso(net, start, tails, pivots, most):
    """The edges of a path from the node start to a pivot and those of a ring from there, as a pair,
    where their costs and the tail of the pivot are together at most so much; TooLong if there are none.

    tails: for each node the least cost from there to the end; pivots: for each
    node whether it may be a pivot. Each ring has a node that may be one.
    """
    costs, came = shortest_paths(net, 2 * start, most)
    edges = edges_let(net, costs, tails, most)
    bounds = {node: costs[2 * node] + tails[node] for node in nodes_of(edges) if pivots[node]}
    waiting = [nodes_of(edges)]
    while waiting:
        nodes = waiting.pop()
        for ring in full_rings(nodes, edges):
            pivot = least_bound(ring, bounds)
            around = shortest_ring(edges_inside(edges, ring), pivot, most - bounds[pivot])
            if around is not None:
                return path_to(came, net, 2 * pivot), around
            # No ring through this pivot is short enough, whatever its pivot: no bound is less.
            waiting.append([node for node in ring if node != pivot])
    raise TooLong()


def nodes_of(edges):
    """The nodes of a dict of edges."""
    return [side // 2 for side in edges if side & 1 == 0]


def edges_let(net, costs, tails, most):
    """A dict of the edges of all sides to which a path leads, without those that cost too much in any run."""
    edges = {}
    for side, cost in costs.items():
        for own in (side, side + 1):
            edges[own] = [edge for edge in net[own] if cost + edge[1] + tails[edge[0] // 2] <= most]
    return edges


def edges_inside(edges, nodes):
    """The edges between these nodes alone."""
    inside = {node: True for node in nodes}
    sides = [2 * node for node in nodes] + [2 * node + 1 for node in nodes]
    return {side: [edge for edge in edges[side] if edge[0] // 2 in inside] for side in sides}


def full_rings(nodes, edges):
    """Those rings of these nodes that have an edge between unlike sides, each with all nodes that they can have."""
    nexts = {node: [edge[0] // 2 for edge in edges[2 * node]] for node in nodes}
    return [ring for ring in rings_of(nodes, nexts) if is_full(edges_inside(edges, ring))]


def is_full(edges):
    """Whether there is an edge between unlike sides."""
    for side, row in edges.items():
        if side & 1 and any([edge[0] & 1 == 0 for edge in row]):
            return True
    return False


def least_bound(nodes, bounds):
    """The node with the least bound of those that have one."""
    found = None
    for node in nodes:
        if node in bounds and (found is None or bounds[node] < bounds[found]):
            found = node
    return found


def shortest_ring(edges, pivot, most):
    """The edges of the shortest ring from a pivot, None if it costs more than so much."""
    costs, came = shortest_paths(edges, 2 * pivot + 1, most)
    return path_to(came, edges, 2 * pivot) if 2 * pivot in costs else None


def shortest_paths(edges, start, most):
    """The costs of the sides to which paths lead that cost at most so much, and for each of them the side from
    which it is met and the number of the edge there; the start is met from itself by no edge."""
    costs = {}
    came = {}
    heap = [(0, start, start, -1)]
    while heap:
        cost, side, before, at = heappop(heap)
        if side not in costs:
            costs[side] = cost
            came[side] = (before, at)
            for place, edge in enumerate(edges[side]):
                if edge[0] not in costs and cost + edge[1] <= most:
                    heappush(heap, (cost + edge[1], edge[0], side, place))
    return costs, came


def path_to(came, edges, side):
    """The edges by which paths meet a side."""
    path = []
    before, at = came[side]
    while at != -1:
        path.append(edges[before][at])
        before, at = came[before]
    return path[::-1]
