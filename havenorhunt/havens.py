"""Havens: papers that show that so many searchers do not catch a runner that they see."""

from itertools import combinations

from havenorhunt.masks import mask_of, near_masks, nodes_of, parts_by_standing, reached


def haven(graph, count):
    """Return a haven against so many searchers, or None if there is none."""
    near = near_masks(graph)
    table = parts_by_standing(near, count)
    # The parts of the standings with just so many nodes settle those of the standings within them.
    greatest = {standing: parts for standing, parts in table.items() if len(nodes_of(standing)) == count}
    chosen = _chosen(table, greatest)
    if not chosen:
        return None
    return tuple([(nodes_of(standing), nodes_of(_settled(near, chosen, standing))) for standing in table])


def haven_holds(graph, count, pairs):
    """Tell whether pairs are a haven against so many searchers."""
    table = parts_by_standing(near_masks(graph), count)
    masks = [(mask_of(standing), mask_of(part)) for standing, part in pairs]
    if [standing for standing, _ in masks] != list(table):
        return False
    if not all([part in table[standing] for standing, part in masks]):
        return False
    for (first, part), (second, other) in combinations(masks, 2):
        if not _stretch_of(table[first & second], part) & other:
            return False
    return True


def _chosen(table, left):
    """Return left with one part for each standing, so that all fit to one another, or else {}.

    The dict left has, for each standing, the list of the parts from which one is to be chosen.
    """
    left = _thinned(table, left)
    for standing, parts in left.items():
        if len(parts) > 1:
            for part in parts:
                found = _chosen(table, {**left, standing: [part]})
                if found:
                    return found
            return {}
    return left


def _thinned(table, left):
    """Return left without what fits to no part of some standing, until all fit; {} if a standing keeps none."""
    thinner = _thinned_once(table, left)
    while thinner != left:
        left = thinner
        thinner = _thinned_once(table, left)
    return thinner


def _thinned_once(table, left):
    """Return left without the parts that fit to no part of some standing, or {} if a standing keeps none."""
    thinner = {}
    for standing, parts in left.items():
        thinner[standing] = [part for part in parts if _fits(table, left, standing, part)]
    return thinner if all(thinner.values()) else {}


def _fits(table, left, standing, part):
    """Tell whether a part of a standing fits to some part of each standing of left."""
    for other, parts in left.items():
        stretch = _stretch_of(table[standing & other], part)
        if not any([stretch & there for there in parts]):
            return False
    return True


def _stretch_of(stretches, part):
    """Return the one of these stretches in which a part lies."""
    return [stretch for stretch in stretches if stretch & part][0]


def _settled(near, chosen, standing):
    """Return the part for a standing that follows from the parts chosen for greater standings."""
    within = [parts[0] for other, parts in chosen.items() if not standing & ~other]
    return reached(near, within[0], ~standing)
