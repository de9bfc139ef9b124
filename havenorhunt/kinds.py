"""The kinds of pieces in the game of two players (point 34).

The kind of a piece with some sets picked in it, up to a depth, is a tuple. Two of them are equal
exactly if the second player can go on answering as often as the depth says, while what is picked
already is not asked about. For depth 0 it is (). Otherwise it has, in ascending order, a pair
(facts, kind) for each set that can be picked next, each pair once: what the set does alone and
beside the earlier ones, and the kind with the set picked, up to a depth that is 1 less.
"""

from havenorhunt.masks import near_masks, nodes_of


class Board:
    """One of the two pieces of a game. The sets that are picked in it are masks."""

    def __init__(self, piece):
        graph, self.border = piece
        self.near = near_masks(graph)
        self.sets = list(range(1 << len(self.near)))
        # For each set the mask of all neighbours of its nodes, and what it does alone.
        self.around = [self._around(picked) for picked in self.sets]
        self.own = [self._own_facts(picked) for picked in self.sets]

    def _around(self, picked):
        found = 0
        for node in nodes_of(picked):
            found = found | self.near[node]
        return found

    def _own_facts(self, picked):
        count = len(nodes_of(picked))
        joined = self.around[picked] & picked != 0
        return (count == 1, count == 0, joined, *[(picked >> node) & 1 == 1 for node in self.border])

    def facts(self, before, picked):
        """Return the tuple of which sentences of fact_sentences hold for a set picked behind earlier ones."""
        found = self.own[picked]
        for other in before:
            found = (*found, not other & ~picked, not picked & ~other, self.around[other] & picked != 0)
        return found

    def choices(self, before, depth):
        """Return a dict with the pairs of the kind behind the sets picked before, each with a set to pick."""
        if depth == 0:
            return {}
        found = {}
        for picked in self.sets:
            pair = (self.facts(before, picked), self.kind((*before, picked), depth - 1))
            found.setdefault(pair, picked)
        return found

    def kind(self, before, depth):
        """Return the kind behind the sets picked before, up to a depth."""
        return tuple(sorted(self.choices(before, depth)))


def fact_sentences(places, before, name):
    """Return the list of the sentences that facts tells about.

    They are those of the first four lines of point 23, for a border with so many places and for the
    last of several names; without those that hold always, or just if another one of them does.
    """
    found = [("single", name), ("empty", name), ("joined", name, name)]
    for place in range(places):
        found.append(("at", place, name))
    for other in before:
        found.extend([("within", other, name), ("within", name, other), ("joined", other, name)])
    return found
