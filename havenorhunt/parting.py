"""Sentences that part two pieces which are not alike."""

from havenorhunt.kinds import Board, fact_sentences

_NAMES = "xyzabcdefghijklmnopqrstuvw"


def parting(first, second, depth):
    """Return a sentence that holds in the first and not in the second piece, or None if they are alike."""
    return _parted((Board(first), ()), (Board(second), ()), depth)


def _parted(ours, theirs, depth):
    """Return a sentence of at most this rank that holds on our side and not on theirs, or None.

    A side is a pair of a board and the tuple of the sets picked on it; those picked on both sides,
    as the first of _NAMES, agree in all facts.
    """
    (board, picks), (other_board, other_picks) = ours, theirs
    choices, others = board.choices(picks, depth), other_board.choices(other_picks, depth)
    name = _NAMES[len(picks)]
    for pair, picked in choices.items():
        if pair not in others:
            sides = [(other_board, (*other_picks, other)) for other in others.values()]
            return ("some", name, _parted_from_all((board, (*picks, picked)), sides, depth - 1))
    for pair, other in others.items():
        if pair not in choices:
            sides = [(board, (*picks, picked)) for picked in choices.values()]
            return ("not", ("some", name, _parted_from_all((other_board, (*other_picks, other)), sides, depth - 1)))
    return None


def _parted_from_all(ours, sides, depth):
    """Return a sentence of at most this rank that holds on our side and on none of the other sides."""
    found = []
    for side in sides:
        sentence = _parted_behind(ours, side, depth)
        if sentence not in found:
            found.append(sentence)
    return _all_of(found)


def _parted_behind(ours, theirs, depth):
    """Return a sentence as _parted does, for sides where what was picked last may differ in its facts."""
    (board, picks), (other_board, other_picks) = ours, theirs
    facts = board.facts(picks[:-1], picks[-1])
    other_facts = other_board.facts(other_picks[:-1], other_picks[-1])
    names = _NAMES[:len(picks)]
    sentences = fact_sentences(len(board.border), names[:-1], names[-1])
    for fact, other, sentence in zip(facts, other_facts, sentences):
        if fact != other:
            return sentence if fact else ("not", sentence)
    return _parted(ours, theirs, depth)


def _all_of(sentences):
    """Return the sentence that all of these hold, with few words around one another."""
    if len(sentences) == 1:
        return sentences[0]
    half = len(sentences) // 2
    return ("and", _all_of(sentences[:half]), _all_of(sentences[half:]))
