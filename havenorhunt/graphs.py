"""Graphs: their texts, their parts, and the borders of sets of nodes."""

from havenorhunt.errors import BadText
from havenorhunt.masks import border_mask, mask_of, near_masks, nodes_of, part_masks

_DIGITS = "0123456789"
MOST_NODES = 8


def read_graph(text):
    """Return the graph of a text; raise BadText if the text is not the text of a graph."""
    # A graph has at most 8 nodes: each number is one digit, so each edge takes four characters.
    if len(text) % 4 != 2 or text[1] != ":":
        raise BadText()
    count = _DIGITS.find(text[0])
    edges = tuple([_read_edge(text[at:at + 4]) for at in range(2, len(text), 4)])
    if not 1 <= count <= MOST_NODES or not _edges_fit(count, edges):
        raise BadText()
    return (count, edges)


def _read_edge(word):
    """Return the edge of four characters; what is no digit gives the node -1, which fits nowhere."""
    if word[0] != " " or word[2] != "-":
        raise BadText()
    return (_DIGITS.find(word[1]), _DIGITS.find(word[3]))


def _edges_fit(count, edges):
    """Tell whether these are the edges, in their order, of a graph with so many nodes."""
    before = (-1, -1)
    for edge in edges:
        first, second = edge
        if not 0 <= first < second < count or edge <= before:
            return False
        before = edge
    return True


def write_graph(graph):
    """Return the text of a graph."""
    count, edges = graph
    return f"{count}:" + "".join([f" {first}-{second}" for first, second in edges])


def parts(graph, gone):
    """Return the tuple of the parts of a graph without the set gone."""
    return tuple([nodes_of(part) for part in part_masks(near_masks(graph), mask_of(gone))])


def border(graph, nodes):
    """Return the border of a set of nodes."""
    return nodes_of(border_mask(near_masks(graph), mask_of(nodes)))
