"""Orders, lines and trees of rooms worked out plainly and slowly, as tests/plain.py does the rest."""

from itertools import permutations, product

from tests.plain import every_set, plain_border, plain_parts, plain_reached, plain_seen


def every_order(count):
    return list(permutations(range(count)))


def some_order(chance, count):
    return tuple(chance.sample(range(count), count))


def plain_beyond(graph, order, at):
    """The set of the nodes beyond the node at a place of an order."""
    front, behind = set(order[:at]), set(order[at + 1:])
    return {other for other in behind if other in plain_reached(graph, {order[at]}, front | {other})}


def plain_order_need(graph, order):
    return 1 + max(len(plain_beyond(graph, order, at)) for at in range(len(order)))


def plain_line_need(graph, line):
    return 1 + max(len(plain_border(graph, line[:at])) for at in range(len(line)))


def plain_plan_of_line(graph, line):
    return tuple(tuple(sorted({*plain_border(graph, line[:at]), node})) for at, node in enumerate(line))


def plain_rooms_of(graph, order):
    found = []
    for place in range(len(order)):
        at = len(order) - 1 - place
        beyond = plain_beyond(graph, order, at)
        above = -1 if place == 0 else 0
        for index in range(place):
            if order[len(order) - 1 - index] in beyond:
                above = index
        found.append((tuple(sorted(beyond | {order[at]})), above))
    return tuple(found)


def plain_rooms_hold(graph, count, rooms):
    if rooms == () or rooms[0][1] != -1 or any(len(room) > count for room, _ in rooms):
        return False
    if any(above not in range(at) for at, (_, above) in enumerate(rooms) if at > 0):
        return False
    if not all(any({*edge} <= {*room} for room, _ in rooms) for edge in graph[1]):
        return False
    for node in range(graph[0]):
        tops = 0
        for at, (room, above) in enumerate(rooms):
            if node in room and (at == 0 or node not in rooms[above][0]):
                tops += 1
        if tops != 1:
            return False
    return True


def plain_whole(rooms, at):
    """The nodes of a room and of all rooms below it."""
    found = set(rooms[at][0])
    for below, (_, above) in enumerate(rooms):
        if above == at:
            found |= plain_whole(rooms, below)
    return found


def plain_room_for(rooms, at, part):
    """The first room right below another one that has, with those below it, all nodes of the part."""
    for below, (_, above) in enumerate(rooms):
        if above == at and set(part) <= plain_whole(rooms, below):
            return below
    raise AssertionError("no room has the part")


def plain_hunt_of(graph, rooms):
    first = rooms[0][0]
    return tuple(
        (part, (first, plain_hunt_below(graph, rooms, 0, plain_seen(graph, (), part, first))))
        for part in plain_parts(graph, ())
    )


def plain_hunt_below(graph, rooms, at, told):
    branches = []
    for part in told:
        to = plain_room_for(rooms, at, part)
        room = rooms[to][0]
        then = plain_seen(graph, rooms[at][0], part, room)
        branches.append((part, (room, plain_hunt_below(graph, rooms, to, then))))
    return tuple(branches)


def plain_plan_of(rooms):
    plan = [rooms[0][0]]
    for room, above in rooms[1:]:
        plan.append(tuple(sorted({*room} & {*rooms[above][0]})))
        plan.append(room)
    return tuple(plan)


def most_nodes(rooms):
    return max(len(room) for room, _ in rooms)


def some_rooms(chance, graph, changes):
    """A tree of rooms of a graph: one that an order makes, changed so that it stays one."""
    made = plain_rooms_of(graph, some_order(chance, graph[0]))
    # Each room as a list of its set of nodes and the room above, which is such a list too.
    rooms = []
    for room, above in made:
        rooms.append([set(room), rooms[above] if above >= 0 else None])
    for _ in range(changes):
        change_rooms(chance, graph, rooms)
    return in_some_order(chance, rooms)


def change_rooms(chance, graph, rooms):
    kind, room = chance.randrange(5), chance.choice(rooms)
    if kind == 0:
        rooms.append([set(chance.sample(sorted(room[0]), chance.randint(0, len(room[0])))), room])
    elif kind == 1:
        # A room just as this one comes right below it, and has what was below it.
        double = [set(room[0]), room]
        for other in rooms:
            if other[1] is room:
                other[1] = double
        rooms.append(double)
    elif kind == 2 and room[1] is not None:
        put_together(rooms, room)
    elif kind == 3 and room[1] is not None and room[1][0]:
        room[0].add(chance.choice(sorted(room[1][0])))
    elif kind == 4:
        first = [set(), None]
        for other in rooms:
            if other[1] is None:
                other[1] = first
        rooms.append(first)


def put_together(rooms, room):
    """Put a room into the one above it."""
    room[1][0] |= room[0]
    for other in rooms:
        if other[1] is room:
            other[1] = room[1]
    rooms[:] = [other for other in rooms if other is not room]


def in_some_order(chance, rooms):
    """The tuple of the rooms, in any order in which each stands behind the one above it."""
    done, waiting = [], list(rooms)
    while waiting:
        ready = [room for room in waiting if room[1] is None or any(room[1] is other for other in done)]
        taken = chance.choice(ready)
        done.append(taken)
        waiting = [room for room in waiting if room is not taken]
    places = {id(room): at for at, room in enumerate(done)}
    return tuple((tuple(sorted(room)), -1 if above is None else places[id(above)]) for room, above in done)


def every_rooms(graph, most):
    """All trees of rooms of a graph with at most so many rooms."""
    for count in range(1, most + 1):
        for chosen in product(every_set(graph[0]), repeat=count):
            for aboves in product(*[range(at) for at in range(1, count)]):
                rooms = tuple(zip(chosen, (-1,) + aboves))
                if plain_rooms_hold(graph, graph[0], rooms):
                    yield rooms


def several_rooms(chance, graph):
    """Trees of rooms of a graph of all kinds: made by an order, put together, doubled, with empty rooms, drawn."""
    everything = (tuple(range(graph[0])), -1)
    made = plain_rooms_of(graph, some_order(chance, graph[0]))
    first = made[0][0]
    yield made
    yield (everything,)
    yield (everything,) + tuple((room, 0) for room, _ in made)
    yield ((first, -1), (first, 0)) + tuple((room, above + 1) for room, above in made[1:])
    yield (((), -1), ((), 0), (first, 1)) + tuple((room, above + 2) for room, above in made[1:])
    yield made + (((), len(made) - 1), ((), 0), (made[-1][0], len(made) - 1))
    yield (everything, everything[:1] + (0,), (everything[0], 0), (everything[0], 1))
    for changes in (3, 8):
        yield some_rooms(chance, graph, changes)
