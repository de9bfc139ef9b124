"""Answers about a sentence along a tree of rooms: whether, how often, and for which sets it holds."""

from havenorhunt.along import tables_along
from havenorhunt.errors import BadSentence
from havenorhunt.masks import nodes_of
from havenorhunt.sentences import free_names
from havenorhunt.states import states_of


def true_along(graph, rooms, sentence):
    """Tell whether a sentence holds; raise BadSentence if it has free names."""
    if free_names(sentence):
        raise BadSentence()
    return len(_rows_along(graph, rooms, sentence)) == 1


def count_along(graph, rooms, sentence):
    """Return the count of the rows of sets of its free names for which a sentence holds."""
    return len(_rows_along(graph, rooms, sentence))


def sets_along(graph, rooms, sentence):
    """Return the ascending tuple of the rows of sets of its free names for which a sentence holds."""
    found = []
    for row in _rows_along(graph, rooms, sentence):
        found.append(tuple([nodes_of(mask) for mask in row]))
    return tuple(sorted(found))


def least_along(graph, rooms, sentence, prices):
    """Return (sum, set) for the set with the least sum of prices for which a sentence holds.

    Return None if it holds for no set; raise BadSentence unless it has exactly one free name.
    """
    if len(free_names(sentence)) != 1:
        raise BadSentence()
    choices = []
    for row in _rows_along(graph, rooms, sentence):
        choices.append((sum([prices[node] for node in nodes_of(row[0])]), row[0]))
    if not choices:
        return None
    # The mask is the sum of 2 ** node, which decides between equal sums.
    least, mask = min(choices)
    return (least, nodes_of(mask))


def _rows_along(graph, rooms, sentence):
    """Return the list of the rows of masks for which a sentence holds, one for each free name."""
    names = free_names(sentence)
    states = states_of(sentence)
    first = tables_along(graph, rooms, states, names)[0]
    found = []
    for (numbers, state), rows in first.items():
        if states.tells(state, dict(zip(names, numbers))):
            found.extend(rows)
    return found
