"""Sentences: their texts, their free names, and their rank."""

from havenorhunt.errors import BadText

# What stands behind each word: a name (n), a place (p), or a sentence (s).
_BEHIND = {
    "within": "nn", "joined": "nn", "single": "n", "empty": "n", "at": "pn",
    "not": "s", "and": "ss", "or": "ss", "some": "ns", "each": "ns",
}
_PLACES = "012"


def read_sentence(text):
    """Return the sentence of a text; raise BadText if the text is not the text of a sentence."""
    # Read from the last word on: so what stands behind a word is there when the word is read.
    waiting = []
    for word in text.split(" ")[::-1]:
        if word in _BEHIND:
            needed = _BEHIND[word]
            found = waiting[-len(needed):][::-1]
            if [_kind_of(item) for item in found] != list(needed):
                raise BadText()
            del waiting[-len(needed):]
            waiting.append((word, *found))
        else:
            waiting.append(_read_item(word))
    if [_kind_of(item) for item in waiting] != ["s"]:
        raise BadText()
    return waiting[0]


def _read_item(word):
    """Return the name, or the place, of a word."""
    if len(word) == 1 and "a" <= word <= "z":
        return word
    if len(word) == 1 and word in _PLACES:
        return _PLACES.index(word)
    raise BadText()


def _kind_of(item):
    """Return the letter that tells in _BEHIND what an item of a sentence is."""
    if isinstance(item, tuple):
        return "s"
    return "n" if isinstance(item, str) else "p"


def write_sentence(sentence):
    """Return the text of a sentence."""
    words = []
    # Lists of our own, here and below, keep deep sentences off Python's call stack.
    waiting = [sentence]
    while waiting:
        item = waiting.pop()
        if isinstance(item, tuple):
            waiting.extend(item[::-1])
        else:
            words.append(str(item))
    return " ".join(words)


def free_names(sentence):
    """Return the ascending tuple of the free names of a sentence."""
    found = []
    # Sentences that are still to be searched, each with the names that are bound around it.
    waiting = [(sentence, "")]
    while waiting:
        part, bound = waiting.pop()
        if binds(part):
            waiting.append((part[2], bound if part[1] in bound else bound + part[1]))
            continue
        for item in part[1:]:
            if isinstance(item, tuple):
                waiting.append((item, bound))
            elif isinstance(item, str) and item not in bound:
                found.append(item)
    return tuple(sorted(set(found)))


def rank(sentence):
    """Return the rank of a sentence."""
    most = 0
    # Sentences that are still to be searched, each with the count of names bound around it.
    waiting = [(sentence, 0)]
    while waiting:
        part, around = waiting.pop()
        if binds(part):
            around += 1
        most = max(most, around)
        waiting.extend([(item, around) for item in part if isinstance(item, tuple)])
    return most


def binds(sentence):
    """Tell whether a sentence begins with a word that binds a name."""
    return sentence[0] in ("some", "each")
