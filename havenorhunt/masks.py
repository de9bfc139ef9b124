"""Sets of nodes as integers: the bit 1 << node is set if the node is in the set.

Only the inside of the package uses masks; what callers pass and get are tuples.
"""

from itertools import combinations


def mask_of(nodes):
    """Return the mask of some nodes."""
    mask = 0
    for node in nodes:
        mask |= 1 << node
    return mask


def nodes_of(mask):
    """Return the ascending tuple of the nodes of a mask."""
    return tuple([node for node in range(mask.bit_length()) if (mask >> node) & 1])


def subsets_of(mask):
    """Return the ascending list of the masks of all sets of nodes of a mask."""
    return [within for within in range(mask + 1) if not within & ~mask]


def near_masks(graph):
    """Return the list of the masks of each node's neighbours."""
    count, edges = graph
    near = [0] * count
    for first, second in edges:
        near[first] |= 1 << second
        near[second] |= 1 << first
    return near


def full_mask(near):
    """Return the mask of all nodes."""
    return (1 << len(near)) - 1


def reached(near, start, free):
    """Return the mask of start and of what is reached from there along edges over nodes of free."""
    found = start
    fresh = start
    while fresh:
        around = 0
        for node in nodes_of(fresh):
            around |= near[node]
        fresh = around & free & ~found
        found |= fresh
    return found


def border_mask(near, inside):
    """Return the mask of the nodes of inside that have a neighbour outside of it."""
    return mask_of([node for node in nodes_of(inside) if near[node] & ~inside])


def part_masks(near, gone):
    """Return the list of the masks of the parts without the nodes of gone, by their least nodes."""
    rest = full_mask(near) & ~gone
    found = []
    while rest:
        least = rest & -rest
        part = reached(near, least, rest)
        found.append(part)
        rest &= ~part
    return found


def parts_by_standing(near, count):
    """Return a dict of the parts without each standing of at most so many nodes, all as masks.

    The standings are its keys, in the ascending order of their tuples; it has part_masks of each.
    """
    standings = []
    for size in range(min(count, len(near)) + 1):
        standings.extend(list(combinations(range(len(near)), size)))
    return {mask: part_masks(near, mask) for mask in [mask_of(standing) for standing in sorted(standings)]}
