"""Rings: nodes that lead to each other and back.

Where nodes lead is told by nexts, a list or a dict from each node to the nodes
behind it; nodes that do not stand among those that are asked for are left aside.
"""


def rings_of(nodes, nexts):
    """The nodes in lists, each of nodes that lead to each other (often just one);
    each list stands behind those to which it leads."""
    inside = {node: True for node in nodes}
    order = order_of_leaving(nodes, nexts, inside)
    befores = {node: [] for node in nodes}
    for node in nodes:
        for other in nexts[node]:
            if other in inside:
                befores[other].append(node)
    # Backwards from the node that was left last, no other ring is met that was not met before.
    rings = []
    met = {}
    for node in reversed(order):
        if node not in met:
            rings.append(all_from(node, befores, met))
    return rings[::-1]


def order_of_leaving(nodes, nexts, inside):
    """The nodes, as a walk leaves them that goes as deep as it can and then back."""
    order = []
    met = {}
    for start in nodes:
        waiting = [(start, False)]
        while waiting:
            node, is_left = waiting.pop()
            if is_left:
                order.append(node)
            elif node not in met:
                met[node] = True
                waiting.append((node, True))
                waiting.extend([(other, False) for other in nexts[node] if other in inside and other not in met])
    return order


def all_from(start, nexts, met):
    """All nodes to which the start leads, and itself, but for those that were met; these are then met, too."""
    found = []
    waiting = [start]
    while waiting:
        node = waiting.pop()
        if node not in met:
            met[node] = True
            found.append(node)
            waiting.extend(nexts[node])
    return found


def has_ring(nodes, nexts):
    """Whether some node leads back to itself."""
    if any([node in nexts[node] for node in nodes]):
        return True
    return any([len(ring) > 1 for ring in rings_of(nodes, nexts)])
