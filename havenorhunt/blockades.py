"""Blockades: papers that show that so many searchers do not catch a runner that they do not see."""

from havenorhunt.masks import full_mask, mask_of, near_masks, nodes_of, parts_by_standing
from havenorhunt.plans import possible_then


def blockade(graph, count, runner):
    """Return a blockade against so many searchers, or None if there is none."""
    near = near_masks(graph)
    table = parts_by_standing(near, count)
    standings = list(table)
    # The sets of possible nodes to which plans lead; at each standing only those without another
    # one within them, because less is possible behind these, wherever the searchers go.
    found = {standing: [] for standing in standings}
    found[0].append(full_mask(near))
    waiting = [(0, full_mask(near))]
    while waiting:
        standing, nodes = waiting.pop()
        if nodes not in found[standing]:
            continue
        for then in standings:
            possible = possible_then(table[standing & then], nodes, then, runner)
            if possible == 0:
                return None
            if not _one_lies_within(found[then], possible):
                found[then] = [other for other in found[then] if possible & ~other] + [possible]
                waiting.append((then, possible))
    pairs = [(nodes_of(standing), nodes_of(nodes)) for standing in standings for nodes in found[standing]]
    return tuple(sorted(pairs))


def blockade_holds(graph, count, runner, pairs):
    """Tell whether pairs are a blockade against so many searchers."""
    if any([len(standing) > count for standing, _ in pairs]) or not _each_is_greater(pairs):
        return False
    table = parts_by_standing(near_masks(graph), count)
    masks = [(mask_of(standing), mask_of(nodes)) for standing, nodes in pairs]
    told = {standing: [] for standing in table}
    for standing, nodes in masks:
        if nodes == 0 or nodes & standing:
            return False
        told[standing].append(nodes)
    for standing, nodes in masks:
        for then in table:
            possible = possible_then(table[standing & then], nodes, then, runner)
            if not _one_lies_within(told[then], possible):
                return False
    # From any pair the searchers can go to the empty standing: so that has a set, if there are pairs.
    return len(pairs) > 0


def _one_lies_within(sets, nodes):
    """Tell whether all nodes of some of the sets are among these nodes; all of them are masks."""
    for other in sets:
        if other & ~nodes == 0:
            return True
    return False


def _each_is_greater(pairs):
    """Tell whether each pair but the first is greater than the one before it."""
    return all([before < after for before, after in zip(pairs, pairs[1:])])
