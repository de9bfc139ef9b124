"""Needs, havens, blockades, rings and spiders worked out plainly, as tests/plain.py does the rest."""

from functools import lru_cache
from itertools import permutations

from tests.plain import (
    every_graph, every_set, neighbours, plain_hunt_holds, plain_parts, plain_possible, plain_reached, plain_seen,
)
from tests.plain_rooms import every_order, plain_line_need, plain_order_need

RUNNERS = ("seen", "unseen", "lazy")
HIDDEN = ("unseen", "lazy")


@lru_cache(None)
def shapes(count):
    """One graph of each shape with so many nodes."""
    seen, found = set(), []
    for graph in every_graph(count):
        if graph[1] not in seen:
            found.append(graph)
            seen |= {renumbered(graph, new)[1] for new in permutations(range(count))}
    return tuple(found)


def small_shapes(most):
    return [graph for count in range(1, most + 1) for graph in shapes(count)]


def renumbered(graph, new):
    return (graph[0], tuple(sorted(tuple(sorted((new[first], new[second]))) for first, second in graph[1])))


@lru_cache(None)
def least_need(graph, runner):
    """The least need of all orders, for the unseen runner of all lines."""
    plain_need = plain_line_need if runner == "unseen" else plain_order_need
    return min(plain_need(graph, order) for order in every_order(graph[0]))


@lru_cache(None)
def parts_of(graph, gone):
    return plain_parts(graph, gone)


def standings_of(graph, count):
    return [nodes for nodes in every_set(graph[0]) if len(nodes) <= count]


@lru_cache(None)
def then_possible(graph, standing, nodes, following, runner):
    """The possible nodes when the searchers go on from a standing, with these nodes as the possible ones."""
    free = set(range(graph[0])) - (set(standing) & set(following))
    if runner == "unseen":
        return frozenset(plain_reached(graph, set(nodes), free) - set(following))
    runs = set(nodes) & set(following)
    return frozenset((set(nodes) | plain_reached(graph, runs, free)) - set(following))


def hidden_is_caught(graph, count, runner):
    """Whether some plan with so many searchers catches a runner that is not seen: all plans are tried."""
    start = ((), frozenset(range(graph[0])))
    known, waiting = {start}, [start]
    while waiting:
        standing, nodes = waiting.pop()
        for following in standings_of(graph, count):
            then = (following, then_possible(graph, standing, nodes, following, runner))
            if not then[1]:
                return True
            if then not in known:
                known.add(then)
                waiting.append(then)
    return False


def seen_is_caught(graph, count):
    """Whether so many searchers catch the runner that they see: all ways of going on are tried."""
    standings = standings_of(graph, count)
    lost = {(standing, part) for standing in standings for part in parts_of(graph, standing)}
    while True:
        caught = {
            (standing, part) for standing, part in lost
            if any(
                not any((following, then) in lost for then in plain_seen(graph, standing, part, following))
                for following in standings
            )
        }
        if not caught:
            return not any(((), part) in lost for part in parts_of(graph, ()))
        lost -= caught


def is_caught(graph, count, runner):
    return seen_is_caught(graph, count) if runner == "seen" else hidden_is_caught(graph, count, runner)


def ascends(pairs):
    return list(pairs) == sorted(set(pairs))


def plain_haven_holds(graph, count, pairs):
    if not ascends(pairs) or sorted(standing for standing, _ in pairs) != sorted(standings_of(graph, count)):
        return False
    if any(part not in parts_of(graph, standing) for standing, part in pairs):
        return False
    for first, part in pairs:
        for second, other in pairs:
            both = tuple(sorted({*first} & {*second}))
            if not any({*part, *other} <= {*region} for region in parts_of(graph, both)):
                return False
    return True


def plain_blockade_holds(graph, count, runner, pairs):
    if not ascends(pairs) or () not in [standing for standing, _ in pairs]:
        return False
    for standing, nodes in pairs:
        if len(standing) > count or not nodes or {*standing} & {*nodes}:
            return False
    told = {standing: [{*nodes} for other, nodes in pairs if other == standing] for standing, _ in pairs}
    for standing, nodes in pairs:
        for following in standings_of(graph, count):
            possible = then_possible(graph, standing, nodes, following, runner)
            if not any(other <= possible for other in told.get(following, [])):
                return False
    return True


def plain_caught(graph, plan, runner):
    return set() in plain_possible(graph, plan, runner)


def plain_gives_ground(graph, plan, runner):
    sets = plain_possible(graph, plan, runner)
    return any(after - before for before, after in zip(sets, sets[1:]))


def plain_best_holds(graph, count, runner, plan):
    """Whether a plan catches without giving ground, or a hunt holds, with so many searchers."""
    if runner == "seen":
        return plain_hunt_holds(graph, count, plan)
    few = all(len(standing) <= count for standing in plan)
    return few and plain_caught(graph, plan, runner) and not plain_gives_ground(graph, plan, runner)


def depth_of(hunt):
    return max([1 + depth_of(go[1]) for _, go in hunt], default=0)


def is_joined(graph, first, second):
    return second in neighbours(graph, first)


def plain_ring_holds(graph, nodes):
    joined = all(is_joined(graph, nodes[at - 1], nodes[at]) for at in range(len(nodes)))
    return len(nodes) > 2 and len(set(nodes)) == len(nodes) and joined


def plain_spider_holds(graph, found):
    if len(found) != 4:
        return False
    node, legs = found[0], found[1:]
    if len({node} | {knee for knee, _ in legs} | {foot for _, foot in legs}) != 7:
        return False
    return all(is_joined(graph, node, knee) and is_joined(graph, knee, foot) for knee, foot in legs)


def has_ring(graph):
    """Whether some edge joins two nodes of a part of the graph without this edge."""
    for edge in graph[1]:
        others = (graph[0], tuple(other for other in graph[1] if other != edge))
        if any({*edge} <= {*part} for part in plain_parts(others, ())):
            return True
    return False


def has_spider(graph):
    return any(
        plain_spider_holds(graph, (nodes[0], nodes[1:3], nodes[3:5], nodes[5:7]))
        for nodes in permutations(range(graph[0]), 7) if nodes[1] < nodes[3] < nodes[5]
    )


def some_tree(chance, count):
    """A graph without a ring."""
    edges = []
    new = chance.sample(range(count), count)
    for node in range(1, count):
        if chance.random() < 0.95:
            edges.append(tuple(sorted((new[node], new[chance.randrange(node)]))))
    return (count, tuple(sorted(edges)))
