"""The search for the best order and the best line of the nodes."""

from havenorhunt.masks import nodes_of


def best_arrangement(count, weight):
    """Return a tuple of so many nodes, each once, in which the greatest weight of a node is least.

    weight(front, node) tells what a node weighs when the nodes of the mask front stand in front of
    it. It does not ask in which order they stand there; so the best arrangement of a mask's nodes
    is found from the best ones of the masks with one node less.
    """
    greatest = [0]
    lasts = [-1]
    for mask in range(1, 1 << count):
        choices = []
        for node in nodes_of(mask):
            front = mask & ~(1 << node)
            choices.append((max(greatest[front], weight(front, node)), node))
        least, last = min(choices)
        greatest.append(least)
        lasts.append(last)
    return _backwards(lasts)


def _backwards(lasts):
    """Return the tuple of all nodes, where lasts has the last node of each mask's arrangement."""
    found = []
    mask = len(lasts) - 1
    while mask:
        found.append(lasts[mask])
        mask &= ~(1 << lasts[mask])
    return tuple(found[::-1])
