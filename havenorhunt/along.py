"""The way along a tree of rooms: tables of sets and states for the parts of the rooms (point 30).

A table belongs to a part of the graph, to a sentence, and to the sentence's free names. It is a
dict: its keys are pairs (numbers, state), the masks of the border nodes in each name's set, and the
state to which the sets lead; at each key stands the list of the rows of sets that lead there, a row
being a tuple of masks. With no free names there is one row, the empty one, and so one key.
"""

from havenorhunt.masks import mask_of, subsets_of


def tables_along(graph, rooms, states, names):
    """Return the list of the tables for the parts of the rooms.

    The object `states` is the one for the states of a sentence with these free names.
    """
    masks = [mask_of(room) for room, _ in rooms]
    owned = _edges_by_room(graph, masks)
    tables = [_alone(states, names, room, edges) for room, edges in zip(masks, owned)]
    # From the last room on: so all rooms below a room have come to it before it goes to that above.
    for at in reversed(range(1, len(rooms))):
        above = rooms[at][1]
        gone, fresh = masks[at] & ~masks[above], masks[above] & ~masks[at]
        tables[above] = _merged(states, tables[above], _lifted(states, names, tables[at], gone, fresh))
    return tables


def _edges_by_room(graph, masks):
    """Return the list of the lists of the edges that belong to each room."""
    owned = [[] for _ in masks]
    for edge in graph[1]:
        ends = mask_of(edge)
        having = [at for at, mask in enumerate(masks) if not ends & ~mask]
        owned[having[0]].append(edge)
    return owned


def _alone(states, names, room, edges):
    """Return the table for the nodes of a room, all at the border, with these edges."""
    table = {}
    # Without edges no state depends on the sets, as long as all nodes are at the border.
    bare = states.alone(room, [], {})
    for numbers in _rows_of(room, names):
        state = states.alone(room, edges, dict(zip(names, numbers))) if edges else bare
        table[(numbers, state)] = [numbers]
    return table


def _lifted(states, names, table, gone, fresh):
    """Return the table behind a change of the border from one room to the room above it."""
    if not gone and not fresh:
        return table
    found = {}
    added = _rows_of(fresh, names)
    known = {}
    for (numbers, state), rows in table.items():
        # Nothing but these masks and the state decides about the new state.
        leaving = tuple([number & gone for number in numbers])
        if (leaving, state) not in known:
            known[(leaving, state)] = states.lifted(state, gone, fresh, dict(zip(names, leaving)))
        then = known[(leaving, state)]
        for more in added:
            staying = tuple([number & ~gone for number in numbers])
            longer = [_united(row, more) for row in rows]
            found.setdefault((_united(staying, more), then), []).extend(longer)
    return found


def _merged(states, table, other):
    """Return the table for two parts put together that share nothing but their border."""
    others = {}
    for (numbers, state), rows in other.items():
        others.setdefault(numbers, []).append((state, rows))
    found = {}
    for (numbers, state), rows in table.items():
        for beside, more in others[numbers]:
            longer = [_united(row, there) for row in rows for there in more]
            found.setdefault((numbers, states.merged(state, beside)), []).extend(longer)
    return found


def _rows_of(mask, names):
    """Return the list of all rows of sets of a mask's nodes, one set for each name."""
    rows = [()]
    for _ in names:
        rows = [(*row, within) for row in rows for within in subsets_of(mask)]
    return rows


def _united(row, other):
    """Return the row of each set of a row together with that of another row."""
    return tuple([one | two for one, two in zip(row, other)])
