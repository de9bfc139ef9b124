"""Lines of the nodes, their need, and the plans that they make for the unseen runner."""

from havenorhunt.arranging import best_arrangement
from havenorhunt.masks import border_mask, near_masks, nodes_of


def line_need(graph, line):
    """Return the need of a line."""
    near = near_masks(graph)
    return 1 + max([len(nodes_of(border_mask(near, front))) for front in _fronts(line)])


def best_line(graph):
    """Return a line of the least need."""
    near = near_masks(graph)
    return best_arrangement(len(near), lambda front, node: len(nodes_of(border_mask(near, front))))


def plan_of_line(graph, line):
    """Return the plan for the unseen runner that a line makes."""
    near = near_masks(graph)
    return tuple([nodes_of(border_mask(near, front) | 1 << node) for node, front in zip(line, _fronts(line))])


def _fronts(line):
    """Return the list of the masks of the nodes in front of each node of a line."""
    found = []
    front = 0
    for node in line:
        found.append(front)
        front |= 1 << node
    return found
