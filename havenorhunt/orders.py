"""Orders of the nodes, and their need."""

from havenorhunt.arranging import best_arrangement
from havenorhunt.masks import near_masks, nodes_of, reached


def order_need(graph, order):
    """Return the need of an order."""
    near = near_masks(graph)
    return 1 + max([len(nodes_of(beyond)) for beyond in beyond_masks(near, order)])


def best_order(graph):
    """Return an order of the least need."""
    near = near_masks(graph)
    return best_arrangement(len(near), lambda front, node: len(nodes_of(_beyond(near, front, node))))


def beyond_masks(near, order):
    """Return the list of the masks of the nodes beyond each node of an order, in its order."""
    found = []
    front = 0
    for node in order:
        found.append(_beyond(near, front, node))
        front |= 1 << node
    return found


def _beyond(near, front, node):
    """Return the mask of the nodes beyond a node that has the nodes of the mask front before it."""
    everywhere = reached(near, 1 << node, front)
    around = 0
    for other in nodes_of(everywhere):
        around |= near[other]
    return around & ~front & ~(1 << node)
