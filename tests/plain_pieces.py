"""States, records, pieces and their game worked out plainly, as tests/plain.py does the rest."""

from functools import lru_cache
from itertools import product

from tests.plain import every_graph, some_graph
from tests.plain_rooms import plain_whole
from tests.plain_sentences import all_sets, fact_holds


def part_of_room(graph, rooms, at):
    """The nodes of the part of a room, and the edges that belong to it and to the rooms below it."""
    below = [at]
    for there, (_, above) in enumerate(rooms):
        if above in below and there > above:
            below.append(there)
    edges = []
    for edge in graph[1]:
        first = min(there for there, (room, _) in enumerate(rooms) if {*edge} <= {*room})
        if first in below:
            edges.append(edge)
    return plain_whole(rooms, at), edges


def plain_state(nodes, edges, border, sentence, sets):
    """The state of a sentence in a part, for frozensets of its nodes as the free names."""
    word, inside = sentence[0], nodes - border
    if word == "within":
        return int((sets[sentence[1]] & inside) <= sets[sentence[2]])
    if word == "joined":
        one, two = sets[sentence[1]], sets[sentence[2]]
        return int(any((a in one and b in two) or (b in one and a in two) for a, b in edges))
    if word in ("single", "empty"):
        return min(2, len(sets[sentence[1]] & inside))
    if word in ("some", "each"):
        pairs = set()
        for chosen in all_sets(8):
            if chosen <= nodes:
                number = sum(2 ** node for node in chosen & border)
                pairs.add((number, plain_state(nodes, edges, border, sentence[2], {**sets, sentence[1]: chosen})))
        return tuple(sorted(pairs))
    return tuple(plain_state(nodes, edges, border, part, sets) for part in sentence[1:])


def plain_record(graph, rooms, sentence):
    states = []
    for at, (room, _) in enumerate(rooms):
        nodes, edges = part_of_room(graph, rooms, at)
        states.append(plain_state(nodes, edges, frozenset(room), sentence, {}))
    return tuple(states)


def spoilt_tuples(worth):
    """Pairs (what was done, worth): numbers within tuples within one another, spoilt at any one place."""
    if type(worth) is int:
        for other in (-1, 0, 1, 2, 3, worth + 1, worth - 1, worth + 4):
            if other != worth:
                yield "number", other
        yield "tuple for a number", (worth,)
        yield "tuple for a number", ()
        yield "tuple for a number", (worth, worth)
        return
    yield "number for a tuple", 0
    yield "number for a tuple", 1
    yield "nested", (worth,)
    if len(worth) == 1:
        yield "nested", worth[0]
    for at, item in enumerate(worth):
        front, back = worth[:at], worth[at + 1:]
        yield "left out", front + back
        yield "added", front + (item, item) + back
        yield "added", front + (0,) + worth[at:]
        yield "added", front + ((0, 0),) + worth[at:]
        if back and back[0] != item:
            yield "exchanged", front + (back[0], item) + back[1:]
        if type(item) is tuple:
            yield "nested", front + item + back
        for what, other in spoilt_tuples(item):
            yield what, front + (other,) + back
    yield "added", worth + (0,)
    yield "added", worth + ((),)


def pieces_of(graph, count):
    """All pieces of a graph with so many nodes in the border."""
    for border in product(range(graph[0]), repeat=count):
        if len(set(border)) == count:
            yield (graph, border)


def every_piece(most, count):
    """All pieces with at most so many nodes, and so many of them in the border."""
    return [piece for nodes in range(1, most + 1) for graph in every_graph(nodes) for piece in pieces_of(graph, count)]


def some_piece(chance, least, most, count):
    graph = some_graph(chance, chance.randint(max(1, least, count), most))
    return (graph, tuple(chance.sample(range(graph[0]), count)))


def renumbered_piece(chance, piece):
    """The same piece under other numbers of its nodes."""
    (count, edges), border = piece
    new = chance.sample(range(count), count)
    others = sorted(tuple(sorted((new[one], new[two]))) for one, two in edges)
    return ((count, tuple(others)), tuple(new[node] for node in border))


@lru_cache(None)
def facts_about(piece, picks):
    """Whether each sentence of the first four lines of point 23 holds, with the sets picked as the names."""
    graph, border = piece
    sets = dict(enumerate(picks))
    found = []
    for one in sets:
        for two in sets:
            found += [fact_holds(graph, border, (word, one, two), sets) for word in ("within", "joined")]
        found += [fact_holds(graph, border, (word, one), sets) for word in ("single", "empty")]
        found += [fact_holds(graph, border, ("at", place, one), sets) for place in range(len(border))]
    return tuple(found)


def second_wins(first, second, picks, others, depth):
    """Whether the second player wins from here, where all that both players can do is tried."""
    if depth == 0:
        return facts_about(first, picks) == facts_about(second, others)
    return all(
        any(second_wins(first, second, picks + (one,), others + (two,), depth - 1) for two in all_sets(second[0][0]))
        for one in all_sets(first[0][0])
    ) and all(
        any(second_wins(first, second, picks + (one,), others + (two,), depth - 1) for one in all_sets(first[0][0]))
        for two in all_sets(second[0][0])
    )


def plain_glue(first, second):
    (count, edges), border = first
    (other_count, other_edges), other_border = second
    places = list(border) + [node for node in range(count) if node not in border]
    others = list(other_border) + [None] * (count - len(border))
    others += [node for node in range(other_count) if node not in other_border]
    found = {frozenset(map(places.index, edge)) for edge in edges}
    found |= {frozenset(map(others.index, edge)) for edge in other_edges}
    return (len(others), tuple(sorted(tuple(sorted(edge)) for edge in found)))
