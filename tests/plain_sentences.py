"""Sentences worked out plainly: read, written, and tried with all sets, as tests/plain.py does the rest."""

from functools import lru_cache
from itertools import combinations, product

FACTS = ("within", "joined", "single", "empty")
BINDERS = ("some", "each")
JOINTS = ("not", "and", "or")
WORDS = FACTS + ("at",) + JOINTS + BINDERS
LETTERS = "abcdefghijklmnopqrstuvwxyz"


@lru_cache(None)
def all_sets(count):
    return tuple(frozenset(nodes) for size in range(count + 1) for nodes in combinations(range(count), size))


@lru_cache(None)
def edge_set(graph):
    return frozenset(graph[1]) | frozenset((second, first) for first, second in graph[1])


def plain_read(text):
    """The sentence of a text, or None if it is not the text of a sentence."""
    sentence, rest = read_from(text.split(" "))
    return sentence if rest == [] else None


def read_from(words):
    """The sentence at the beginning of a list of words and the words behind it; None twice if there is none."""
    if not words:
        return None, None
    word, rest = words[0], words[1:]
    if word not in WORDS:
        return None, None
    items = [word]
    if word == "at":
        if rest[:1] not in (["0"], ["1"], ["2"]):
            return None, None
        items.append(int(rest[0]))
        rest = rest[1:]
    names = {"within": 2, "joined": 2, "single": 1, "empty": 1, "at": 1, "some": 1, "each": 1}.get(word, 0)
    for _ in range(names):
        if not rest or len(rest[0]) != 1 or rest[0] not in LETTERS:
            return None, None
        items.append(rest[0])
        rest = rest[1:]
    for _ in range({"not": 1, "and": 2, "or": 2, "some": 1, "each": 1}.get(word, 0)):
        sentence, rest = read_from(rest)
        if rest is None:
            return None, None
        items.append(sentence)
    return tuple(items), rest


def plain_write(sentence):
    return " ".join(plain_write(item) if isinstance(item, tuple) else str(item) for item in sentence)


def words_of(sentence):
    return len(plain_write(sentence).split(" "))


def plain_free(sentence):
    """The set of the free names."""
    word = sentence[0]
    if word in JOINTS:
        return {name for part in sentence[1:] for name in plain_free(part)}
    if word in BINDERS:
        return plain_free(sentence[2]) - {sentence[1]}
    return set(sentence[2:] if word == "at" else sentence[1:])


def plain_rank(sentence):
    inner = max([plain_rank(item) for item in sentence if isinstance(item, tuple)], default=0)
    return inner + (sentence[0] in BINDERS)


def joints_of(sentence):
    """The greatest count of `not`, `and` and `or` around one another."""
    inner = max([joints_of(item) for item in sentence if isinstance(item, tuple)], default=0)
    return inner + (sentence[0] in JOINTS)


def words_around(sentence):
    """The greatest count of words around one another, the innermost with them."""
    return 1 + max([words_around(item) for item in sentence if isinstance(item, tuple)], default=0)


def tried(piece, sentence, sets):
    """Whether a sentence holds in a piece; `sets` is a dict of frozensets, and all sets are tried."""
    graph, border = piece
    word = sentence[0]
    if word == "not":
        return not tried(piece, sentence[1], sets)
    if word == "and":
        return tried(piece, sentence[1], sets) and tried(piece, sentence[2], sets)
    if word == "or":
        return tried(piece, sentence[1], sets) or tried(piece, sentence[2], sets)
    if word in BINDERS:
        every = (tried(piece, sentence[2], {**sets, sentence[1]: nodes}) for nodes in all_sets(graph[0]))
        return any(every) if word == "some" else all(every)
    return fact_holds(graph, border, sentence, sets)


def fact_holds(graph, border, sentence, sets):
    word = sentence[0]
    if word == "at":
        return border[sentence[1]] in sets[sentence[2]]
    first, last = sets[sentence[1]], sets[sentence[-1]]
    if word == "within":
        return first <= last
    if word == "joined":
        return any((one, two) in edge_set(graph) for one in first for two in last)
    return len(first) == (1 if word == "single" else 0)


def tried_rows(graph, sentence):
    """The ascending tuple of all rows of sets of the free names for which a sentence holds."""
    names = sorted(plain_free(sentence))
    rows = []
    for row in product(all_sets(graph[0]), repeat=len(names)):
        if tried((graph, ()), sentence, dict(zip(names, row))):
            rows.append(tuple(tuple(sorted(nodes)) for nodes in row))
    return tuple(sorted(rows))


def some_fact(chance, scope, places):
    words = FACTS + (("at",) * 2 if places else ())
    word = chance.choice(words)
    if word == "at":
        return (word, chance.randrange(places), chance.choice(scope))
    return (word,) + tuple(chance.choice(scope) for _ in range(2 if word in ("within", "joined") else 1))


def drawn_sentence(chance, scope, most_rank, joints, places):
    kinds = ["fact"] * (1 if scope else 0) + ["bound"] * (2 if most_rank else 0)
    kinds += ["joint"] * (3 if joints and kinds else 0)
    kind = chance.choice(kinds)
    if kind == "fact":
        return some_fact(chance, scope, places)
    if kind == "bound":
        # Sometimes a name that is bound around already, or that is free elsewhere.
        name = chance.choice("uvwxyz" + scope)
        inner = scope if name in scope else scope + name
        return (chance.choice(BINDERS), name, drawn_sentence(chance, inner, most_rank - 1, joints, places))
    word = chance.choice(JOINTS + ("and", "or"))
    many = 1 if word == "not" else 2
    return (word,) + tuple(drawn_sentence(chance, scope, most_rank, joints - 1, places) for _ in range(many))


def some_sentence(chance, scope="", most_rank=0, joints=3, places=0):
    """A sentence of at most 100 words with at most the letters of scope as its free names."""
    while True:
        sentence = drawn_sentence(chance, scope, most_rank, joints, places)
        if words_of(sentence) <= 100:
            return sentence


def balanced(word, parts):
    """The parts put together two by two."""
    if len(parts) == 1:
        return parts[0]
    half = len(parts) // 2
    return (word, balanced(word, parts[:half]), balanced(word, parts[half:]))


def great_sentence(chance, free, bound, joints):
    """A sentence with these free names, these names bound around it, and so many joints around one another."""

    def grown(depth):
        if depth == 0:
            return some_fact(chance, free + bound, 0)
        return (chance.choice(("and", "or")), grown(depth - 1), grown(depth - 1))

    while True:
        sentence = grown(joints)
        for name in reversed(bound):
            sentence = (chance.choice(BINDERS), name, sentence)
        if words_of(sentence) <= 100 and plain_free(sentence) == set(free):
            return sentence


def fitting_sentence(chance, count, free=None):
    """A sentence that point 24 allows along the rooms of a graph with so many nodes, and so many free names if told."""
    while True:
        names = chance.randint(0, min(3, 12 // count)) if free is None else free
        most = min(3, 12 // count - names)
        bound = chance.randint(0 if names else 1, most) if names or most else 0
        scope = "".join(sorted(chance.sample("abcxyz", names)))
        sentence = some_sentence(chance, scope, bound, max(7 - 2 * bound, 0))
        if free is None or len(plain_free(sentence)) == free:
            return sentence


def cheapest(rows, prices):
    """What least_along must return, if these are the rows for which a sentence with one free name holds."""
    choices = [(sum(prices[node] for node in row[0]), sum(2 ** node for node in row[0]), row[0]) for row in rows]
    if not choices:
        return None
    least, _, nodes = min(choices)
    return (least, nodes)
