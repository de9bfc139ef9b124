"""Trees of rooms, their judge, and the hunts and plans that they make."""

from havenorhunt.masks import mask_of, near_masks, nodes_of, part_masks
from havenorhunt.orders import beyond_masks
from havenorhunt.plans import seen_parts


def rooms_of(graph, order):
    """Return the tree of rooms that an order makes."""
    beyonds = beyond_masks(near_masks(graph), order)
    found = []
    # The place of each node's room among the rooms, for the nodes whose rooms are found already.
    places = {}
    for node, beyond in reversed(list(zip(order, beyonds))):
        above = max([places[other] for other in nodes_of(beyond)], default=0)
        found.append((nodes_of(beyond | 1 << node), above if found else -1))
        places[node] = len(places)
    return tuple(found)


def rooms_hold(graph, count, rooms):
    """Tell whether this is a tree of rooms of the graph whose rooms have at most so many nodes."""
    nodes, edges = graph
    if not _indexes_fit(rooms) or any([len(room) > count for room, _ in rooms]):
        return False
    masks = [mask_of(room) for room, _ in rooms]
    for ends in [mask_of(edge) for edge in edges]:
        if all([ends & ~mask for mask in masks]):
            return False
    # Which nodes each room has while the room above it does not.
    news = [mask & ~_mask_at(masks, above) for mask, (_, above) in zip(masks, rooms)]
    return all([sum([(new >> node) & 1 for new in news]) == 1 for node in range(nodes)])


def _indexes_fit(rooms):
    """Tell whether -1 stands above the first room alone, and an earlier one above each other."""
    if not rooms or rooms[0][1] != -1:
        return False
    return all([0 <= above <= at for at, (_, above) in enumerate(rooms[1:])])


def _mask_at(masks, at):
    """Return the mask of the room at an index, and that of no node at -1."""
    return masks[at] if at >= 0 else 0


def hunt_of(graph, rooms):
    """Return the hunt for the seen runner that a tree of rooms makes."""
    near = near_masks(graph)
    masks = [mask_of(room) for room, _ in rooms]
    aboves = [above for _, above in rooms]
    # The first room stands below -1 and has all nodes at or below it: the hunt begins there.
    return _branches((near, masks, aboves, _whole_masks(masks, aboves)), -1, part_masks(near, 0))


def _whole_masks(masks, aboves):
    """Return the list of the masks of each room's nodes together with those of all rooms below."""
    wholes = list(masks)
    for at in reversed(range(1, len(masks))):
        wholes[aboves[at]] |= wholes[at]
    return wholes


def _branches(tree, at, told):
    """Return the branches for the masks of the parts told, behind the room at an index."""
    near, masks, aboves, wholes = tree
    found = []
    for part in told:
        below = [to for to, above in enumerate(aboves) if above == at and not part & ~wholes[to]]
        # Of several rooms the first one.
        to_room = below[0]
        left = seen_parts(near, _mask_at(masks, at), part, masks[to_room])
        go = (nodes_of(masks[to_room]), _branches(tree, to_room, left))
        found.append((nodes_of(part), go))
    return tuple(found)


def plan_of(rooms):
    """Return the plan for the lazy runner that a tree of rooms makes."""
    plan = []
    for at, (room, above) in enumerate(rooms):
        if at > 0:
            plan.append(tuple([node for node in room if node in rooms[above][0]]))
        plan.append(room)
    return tuple(plan)
