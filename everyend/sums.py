"""Least and greatest sums of prices, or of steps, by which goals are met.

Ways are as Goals has them, in a list for each goal; part is PRICE or STEPS.
"""

from heapq import heappop, heappush

from everyend.goals import PRICE
from everyend.rings import rings_of


def sum_of(way, part, sums):
    """The sum by a way, from those of the goals that it leaves; None if one of them has none."""
    return sum_with(way[part], way[3], sums)


def sum_with(total, goals, sums):
    """This total and the sums of the goals together, None if one of these has none."""
    for goal in goals:
        if sums[goal] is None:
            return None
        total = total + sums[goal]
    return total


def least_sums(ways, part):
    """For each goal the least sum, and the way by which it comes; None and None for what cannot be met."""
    uses = uses_of(ways)
    sums = [None] * len(ways)
    chosen = [None] * len(ways)
    heap = []
    for goal, row in enumerate(ways):
        for at, way in enumerate(row):
            if not way[3]:
                heappush(heap, (way[part], goal, at))
    # No part is below 0: what is taken off the heap first is the least sum of its goal.
    while heap:
        total, goal, at = heappop(heap)
        if sums[goal] is None:
            sums[goal] = total
            chosen[goal] = ways[goal][at]
            for user, place in uses[goal]:
                other = None if sums[user] is not None else sum_of(ways[user][place], part, sums)
                if other is not None:
                    heappush(heap, (other, user, place))
    return sums, chosen


def uses_of(ways):
    """For each goal the pairs (goal, number of its way) of the ways that leave it."""
    uses = [[] for _ in ways]
    for goal, row in enumerate(ways):
        for at, way in enumerate(row):
            for other in way[3]:
                uses[other].append((goal, at))
    return uses


def greatest_sums(ways, part):
    """For each goal the greatest sum, None if there is no greatest one. All goals can be met."""
    sums = [None] * len(ways)
    nexts = [[goal for way in row for goal in way[3]] for row in ways]
    for ring in rings_of(list(range(len(ways))), nexts):
        greatest = greatest_of_ring(ways, part, sums, ring)
        for goal in ring:
            sums[goal] = greatest
    return sums


def greatest_of_ring(ways, part, sums, ring):
    """The greatest sum of each goal of a ring, if the goals that are led to have theirs; None if there is none."""
    inside = {goal: True for goal in ring}
    greatest = 0
    is_doubled = False
    for goal in ring:
        for way in ways[goal]:
            rest = [other for other in way[3] if other not in inside]
            total = sum_with(way[part], rest, sums)
            # A way round that costs nothing adds nothing; any other one can be done again and again.
            stays = len(way[3]) - len(rest)
            if total is None or (stays and total > 0):
                return None
            is_doubled = is_doubled or stays == 2
            greatest = max(greatest, total)
    # A way that leaves two goals of the ring meets one of them at the greatest sum each time round.
    return None if is_doubled and greatest > 0 else greatest


def ways_at(ways, sums):
    """The ways by which just these sums of prices come, and no others."""
    return [[way for way in row if total is not None and sum_of(way, PRICE, sums) == total]
            for row, total in zip(ways, sums)]
