"""Pieces: when two of them are alike, how the second player answers, and how they are glued."""

from havenorhunt.kinds import Board
from havenorhunt.masks import mask_of, nodes_of


def alike(first, second, depth):
    """Tell whether two pieces are alike up to a depth."""
    return Board(first).kind((), depth) == Board(second).kind((), depth)


def answer(first, second, picks, picked, depth):
    """Return a set with which the second player can go on answering, or None if there is none.

    The first player picks a set in the first piece, behind the picks, pairs of sets of both pieces,
    and so many picks come behind this one.
    """
    ours, theirs = Board(first), Board(second)
    before = [mask_of(pick[0]) for pick in picks]
    others = [mask_of(pick[1]) for pick in picks]
    for at in range(len(picks)):
        if ours.facts(before[:at], before[at]) != theirs.facts(others[:at], others[at]):
            return None
    mask = mask_of(picked)
    facts, kind = ours.facts(before, mask), ours.kind((*before, mask), depth)
    for found in theirs.sets:
        if theirs.facts(others, found) == facts and theirs.kind((*others, found), depth) == kind:
            return nodes_of(found)
    return None


def glue(first, second):
    """Return the graph of two pieces that are glued at their borders."""
    (count, _), border = first
    (other_count, _), _ = second
    numbers = _numbers(first, len(border))
    others = _numbers(second, count)
    edges = _renumbered(first, numbers) + _renumbered(second, others)
    return (count + other_count - len(border), tuple(sorted(set(edges))))


def _numbers(piece, start):
    """Return a dict of the new numbers of a piece's nodes: of those not at the border from start on."""
    (count, _), border = piece
    numbers = {node: place for place, node in enumerate(border)}
    for node in range(count):
        if node not in numbers:
            numbers[node] = start
            start += 1
    return numbers


def _renumbered(piece, numbers):
    """Return the list of a piece's edges with new numbers."""
    ends = [(numbers[one], numbers[two]) for one, two in piece[0][1]]
    return [(min(pair), max(pair)) for pair in ends]
