"""A ground: a graph that is changed, and the answers about it as it stands."""

from havenorhunt.answers import count_along, true_along
from havenorhunt.errors import NotHere
from havenorhunt.graphs import MOST_NODES
from havenorhunt.needs import need
from havenorhunt.rooms import rooms_of


class Ground:
    """A graph and an order of its nodes, with the changes that can be taken back."""

    def __init__(self, graph):
        # The graphs and orders before each change that was not taken back, the latest one last.
        self._earlier = []
        self._stand(graph, tuple(range(graph[0])))

    @property
    def graph(self):
        """The graph as it stands."""
        return self._graph

    @property
    def rooms(self):
        """The tree of rooms that the order makes."""
        return self._rooms

    def add(self):
        """Add a node and return its number; raise NotHere("node") if there is no place for it."""
        count, edges = self._graph
        if count >= MOST_NODES:
            raise NotHere("node")
        self._change((count + 1, edges), (count, *self._order))
        return count

    def join(self, first, second):
        """Join two nodes; raise NotHere("node"), or NotHere("edge") if they cannot be joined."""
        edge = self._pair_of(first, second)
        count, edges = self._graph
        if first == second or edge in edges:
            raise NotHere("edge")
        self._change((count, tuple(sorted([*edges, edge]))), self._order)

    def part(self, first, second):
        """Part two nodes; raise NotHere("node"), or NotHere("edge") if they are not joined."""
        edge = self._pair_of(first, second)
        count, edges = self._graph
        if edge not in edges:
            raise NotHere("edge")
        self._change((count, tuple([other for other in edges if other != edge])), self._order)

    def undo(self):
        """Take back the last change that was not taken back; tell whether there was one."""
        if not self._earlier:
            return False
        graph, order = self._earlier.pop()
        self._stand(graph, order)
        return True

    def need(self, runner):
        """Return the need of a runner."""
        return need(self._graph, runner)

    def is_true(self, sentence):
        """Tell whether a sentence holds; raise BadSentence if it has free names."""
        return true_along(self._graph, self._rooms, sentence)

    def count(self, sentence):
        """Return the count of the rows of sets of its free names for which a sentence holds."""
        return count_along(self._graph, self._rooms, sentence)

    def _pair_of(self, first, second):
        """Return the pair of two nodes, the less one first; raise NotHere("node") if one is not there."""
        count = self._graph[0]
        if not (0 <= first < count and 0 <= second < count):
            raise NotHere("node")
        return (min(first, second), max(first, second))

    def _change(self, graph, order):
        """Go on to another graph and order, in such a way that undo comes back to the present ones."""
        self._earlier.append((self._graph, self._order))
        self._stand(graph, order)

    def _stand(self, graph, order):
        self._graph = graph
        self._order = order
        self._rooms = rooms_of(graph, order)
