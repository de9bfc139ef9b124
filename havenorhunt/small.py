"""What keeps one searcher, or two, from catching a runner: edges, rings and spiders."""

from havenorhunt.masks import near_masks, nodes_of


def ring(graph):
    """Return a ring, or None if there is none."""
    count, edges = graph
    for edge in edges:
        # A way from one end of an edge to the other one, not over this edge, is a ring.
        others = tuple([other for other in edges if other != edge])
        way = _way(near_masks((count, others)), edge[0], edge[1])
        if way is not None:
            return way
    return None


def _way(near, start, end):
    """Return a shortest way from start to end as a tuple of nodes, or None if there is none."""
    ways = [(start,)]
    seen = 1 << start
    while ways:
        longer = []
        for way in ways:
            if way[-1] == end:
                return way
            fresh = near[way[-1]] & ~seen
            seen |= fresh
            longer.extend([(*way, node) for node in nodes_of(fresh)])
        ways = longer
    return None


def spider(graph):
    """Return a spider of a graph that has no ring, or None if there is none."""
    near = near_masks(graph)
    for node in range(len(near)):
        legs = []
        for knee in nodes_of(near[node]):
            # Without a ring the feet of different knees are different, and no knee is a foot.
            feet = nodes_of(near[knee] & ~(1 << node))
            if feet:
                legs.append((knee, feet[0]))
        if len(legs) >= 3:
            return (node, legs[0], legs[1], legs[2])
    return None


def ring_holds(graph, nodes):
    """Tell whether a tuple of nodes is a ring of the graph."""
    if len(nodes) < 3 or len(set(nodes)) < len(nodes):
        return False
    return _all_joined(graph, list(zip(nodes, nodes[1:] + nodes[:1])))


def spider_holds(graph, found):
    """Tell whether a node with any number of pairs of nodes is a spider of the graph."""
    node, *legs = found
    nodes = [node, *[end for leg in legs for end in leg]]
    if len(legs) != 3 or len(set(nodes)) < len(nodes):
        return False
    return _all_joined(graph, legs + [(node, knee) for knee, _ in legs])


def _all_joined(graph, pairs):
    """Tell whether the nodes of each pair are joined."""
    near = near_masks(graph)
    return all([(near[first] >> second) & 1 for first, second in pairs])


def obstacle(graph, count, runner):
    """Return None if so many searchers, 1 or 2, are enough, otherwise what they cannot cope with."""
    edges = graph[1]
    if count == 1:
        return ("edge", edges[0]) if edges else None
    found = ring(graph)
    if found is not None:
        return ("ring", found)
    found = spider(graph) if runner == "unseen" else None
    return ("spider", found) if found is not None else None
