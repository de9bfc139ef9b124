"""Plans for a runner that is not seen, hunts for one that is seen, and their judges."""

from havenorhunt.errors import NoCatch
from havenorhunt.masks import full_mask, mask_of, near_masks, nodes_of, part_masks, reached


def possible_after(graph, plan, runner):
    """Return the tuple of the sets of possible nodes behind each standing."""
    behind = _possible_masks(graph, plan, runner)[1:]
    return tuple([nodes_of(possible) for possible in behind])


def caught_at(graph, plan, runner):
    """Return the index of the standing at which a plan catches; raise NoCatch if it does not."""
    behind = _possible_masks(graph, plan, runner)[1:]
    for index, possible in enumerate(behind):
        if possible == 0:
            return index
    raise NoCatch()


def gives_ground(graph, plan, runner):
    """Tell whether behind some standing a node is possible that was not possible before it."""
    masks = _possible_masks(graph, plan, runner)
    return any([after & ~before for before, after in zip(masks, masks[1:])])


def searchers_of(plan):
    """Return the greatest count of nodes of a standing, 0 for the empty plan."""
    return max([len(standing) for standing in plan], default=0)


def hunt_holds(graph, count, hunt):
    """Tell whether a hunt for the seen runner holds for a count of searchers."""
    near = near_masks(graph)
    # Branches that are still to be judged, each time with the standing above them and the parts
    # that they must be for. A list of our own keeps deep hunts off Python's call stack.
    waiting = [(0, part_masks(near, 0), hunt)]
    while waiting:
        standing, told, branches = waiting.pop()
        if [branch[0] for branch in branches] != [nodes_of(mask) for mask in told]:
            return False
        for part, (landing, below) in branches:
            if len(landing) > count:
                return False
            then = mask_of(landing)
            waiting.append((then, seen_parts(near, standing, mask_of(part), then), below))
    return True


def seen_parts(near, standing, part, then):
    """Return the list of the parts in which a seen runner may be, by their least nodes.

    It was in a part without the first standing, and the searchers went from there to the standing
    then. All these are masks.
    """
    run = reached(near, part, ~(standing & then))
    return [other for other in part_masks(near, then) if other & run]


def possible_then(stretches, possible, then, runner):
    """Return the mask of the possible nodes when the searchers have gone to the standing then.

    The runner, "unseen" or "lazy", was on a possible node. Stretches are the parts of the graph
    without the nodes on which somebody stayed. All these are masks.
    """
    # The lazy runner runs only from under a searcher that lands; elsewhere it stays where it is.
    runs = possible & then if runner == "lazy" else possible
    for stretch in stretches:
        if stretch & runs:
            possible |= stretch
    return possible & ~then


def _possible_masks(graph, plan, runner):
    """Return the list of the masks of the possible nodes, at first and behind each standing."""
    near = near_masks(graph)
    standing = 0
    possible = full_mask(near)
    found = [possible]
    for then in [mask_of(nodes) for nodes in plan]:
        possible = possible_then(part_masks(near, standing & then), possible, then, runner)
        found.append(possible)
        standing = then
    return found
