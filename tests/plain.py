"""The points of the document worked out plainly and slowly, with Python's own sets.

The tests compare the program with these. Nothing here uses the program.
"""

from itertools import combinations, product


def every_pair(count):
    return list(combinations(range(count), 2))


def every_graph(count):
    """All graphs with so many nodes."""
    for chosen in product((False, True), repeat=len(every_pair(count))):
        yield (count, tuple(pair for pair, taken in zip(every_pair(count), chosen) if taken))


def every_small_graph(most):
    for count in range(1, most + 1):
        yield from every_graph(count)


def every_set(count):
    """All sets of the nodes of a graph with so many nodes."""
    return [nodes for size in range(count + 1) for nodes in combinations(range(count), size)]


def some_graph(chance, count):
    """A graph with so many nodes, picked with the generator `chance`."""
    dense = chance.random()
    return (count, tuple(pair for pair in every_pair(count) if chance.random() < dense))


def some_set(chance, count, most):
    return tuple(sorted(chance.sample(range(count), chance.randint(0, min(count, most)))))


def neighbours(graph, node):
    return {other for other in range(graph[0]) if (node, other) in graph[1] or (other, node) in graph[1]}


def plain_reached(graph, starts, free):
    """The nodes of starts and those reached from there over nodes of free."""
    found = set(starts)
    while True:
        more = {other for node in found for other in neighbours(graph, node)} & set(free) - found
        if not more:
            return found
        found |= more


def plain_parts(graph, gone):
    rest = set(range(graph[0])) - set(gone)
    found = {tuple(sorted(plain_reached(graph, {node}, rest))) for node in rest}
    return tuple(sorted(found, key=min))


def plain_border(graph, nodes):
    return tuple(sorted(node for node in nodes if neighbours(graph, node) - set(nodes)))


def plain_possible(graph, plan, runner):
    """The sets of possible nodes, at first and behind each standing."""
    everything = set(range(graph[0]))
    possible, standing, found = everything, set(), [everything]
    for following in map(set, plan):
        free = everything - (standing & following)
        if runner == "unseen":
            possible = plain_reached(graph, possible, free) - following
        else:
            left = possible - following
            possible = left | (plain_reached(graph, possible & following, free) - following)
        standing = following
        found.append(possible)
    return found


def plain_seen(graph, standing, part, following):
    """The parts in which the seen runner may be when the searchers have gone on."""
    both = set(standing) & set(following)
    for region in plain_parts(graph, both):
        if set(part) <= set(region):
            return tuple(p for p in plain_parts(graph, following) if set(p) <= set(region))
    raise AssertionError("the part lies in no part")


def plain_branches_hold(graph, count, standing, wanted, branches):
    return tuple(part for part, _ in branches) == wanted and all(
        len(following) <= count
        and plain_branches_hold(graph, count, following, plain_seen(graph, standing, part, following), below)
        for part, (following, below) in branches
    )


def plain_hunt_holds(graph, count, hunt):
    return plain_branches_hold(graph, count, (), plain_parts(graph, ()), hunt)


def sweep(graph, standing=(), told=None):
    """A hunt that holds: what stands beside the runner's part stays, and its least node is added."""
    branches = []
    for part in plain_parts(graph, ()) if told is None else told:
        beside = {node for node in standing if neighbours(graph, node) & set(part)}
        following = tuple(sorted(beside | {min(part)}))
        below = sweep(graph, following, plain_seen(graph, standing, part, following))
        branches.append((part, (following, below)))
    return tuple(branches)


def wander(chance, graph, moves, standing=(), told=None):
    """A hunt that holds: the searchers go anywhere a few times, then they sweep."""
    told = plain_parts(graph, ()) if told is None else told
    if moves == 0:
        return sweep(graph, standing, told)
    branches = []
    for part in told:
        following = some_set(chance, graph[0], 3)
        below = wander(chance, graph, moves - 1, following, plain_seen(graph, standing, part, following))
        branches.append((part, (following, below)))
    return tuple(branches)


def most_searchers(hunt):
    return max([max(len(go[0]), most_searchers(go[1])) for _, go in hunt], default=0)


def spoilt_here(count, branches):
    """Pairs (what was done, branches), each spoilt at one of the branches themselves."""
    present = [part for part, _ in branches]
    for at in range(len(branches) + 1):
        for part in every_set(count):
            if part not in present:
                yield "put in", branches[:at] + ((part, (part, ())),) + branches[at:]
    for at, (part, (standing, below)) in enumerate(branches):
        front, back = branches[:at], branches[at + 1:]
        yield "left out", front + back
        yield "doubled", front + (branches[at], branches[at]) + back
        if back:
            yield "exchanged", front + (back[0], branches[at]) + back[1:]
        if below:
            yield "cut off", front + ((part, (standing, ())),) + back
        for other in every_set(count):
            if other != part:
                yield "part", front + ((other, (standing, below)),) + back
            if other != standing:
                yield "standing", front + ((part, (other, below)),) + back


def spoilt(count, branches):
    """Pairs (what was done, hunt): a hunt spoilt at any one place, in every way of spoilt_here."""
    yield from spoilt_here(count, branches)
    for at, (part, (standing, below)) in enumerate(branches):
        for what, other in spoilt(count, below):
            yield what, branches[:at] + ((part, (standing, other)),) + branches[at + 1:]
