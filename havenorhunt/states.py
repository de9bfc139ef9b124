"""The states of a sentence in parts of a graph, and how they follow from one another (point 29).

There is a class for each kind of sentence. Its objects hold a state as an integer: a fact has the
state itself, another sentence the place in a list of what the state is made of. So equal states are
equal integers, and what follows from them is worked out once.

The sets that are passed are a dict with the mask of each free name's set, of the border nodes in it
at least; rooms, gone and fresh are masks of nodes, too. The methods are the same in each class:
- alone: the state in the part that has the nodes of a room, all at the border, and some edges;
- lifted: the state behind a change of the border, when the nodes of gone become inside nodes and
  those of fresh, which were not in the part, come to it without edges;
- merged: the state in two parts put together that share nothing but their border;
- tells: whether the sentence holds in a part that has this state;
- told: the state as point 29 tells it.
"""

from havenorhunt.masks import nodes_of, subsets_of
from havenorhunt.sentences import binds


def states_of(sentence):
    """Return the object for the states of a sentence without `at`."""
    word = sentence[0]
    if binds(sentence):
        return BoundStates(word, sentence[1], states_of(sentence[2]))
    if word in ("not", "and", "or"):
        return JointStates(word, [states_of(part) for part in sentence[1:]])
    if word == "within":
        return WithinStates(sentence[1], sentence[2])
    if word == "joined":
        return JoinedStates(sentence[1], sentence[2])
    return CountStates(1 if word == "single" else 0, sentence[1])


class WithinStates:
    """The states of ("within", x, y): 1 if no inside node of x is outside of y, otherwise 0."""

    def __init__(self, first, second):
        self.first = first
        self.second = second

    def alone(self, room, edges, sets):
        return 1

    def lifted(self, state, gone, fresh, sets):
        return 0 if sets[self.first] & ~sets[self.second] & gone else state

    def merged(self, state, other):
        return min(state, other)

    def tells(self, state, sets):
        return state == 1 and not sets[self.first] & ~sets[self.second]

    def told(self, state):
        return state


class JoinedStates:
    """The states of ("joined", x, y): 1 if some edge joins a node of x and one of y, otherwise 0."""

    def __init__(self, first, second):
        self.first = first
        self.second = second

    def alone(self, room, edges, sets):
        if not edges:
            return 0
        first, second = sets[self.first], sets[self.second]
        for one, two in edges:
            if (first >> one) & (second >> two) & 1 or (first >> two) & (second >> one) & 1:
                return 1
        return 0

    def lifted(self, state, gone, fresh, sets):
        return state

    def merged(self, state, other):
        return max(state, other)

    def tells(self, state, sets):
        return state == 1

    def told(self, state):
        return state


class CountStates:
    """The states of a sentence that a set has so many nodes, 1 or 0: the count of its inside nodes, at most 2."""

    def __init__(self, wanted, name):
        self.wanted = wanted
        self.name = name

    def alone(self, room, edges, sets):
        return 0

    def lifted(self, state, gone, fresh, sets):
        return min(2, state + len(nodes_of(sets[self.name] & gone)))

    def merged(self, state, other):
        return min(2, state + other)

    def tells(self, state, sets):
        return state + len(nodes_of(sets[self.name])) == self.wanted

    def told(self, state):
        return state


class JointStates:
    """The states of a sentence made of one or two others by `not`, `and` or `or`: the tuples of their states."""

    def __init__(self, word, bodies):
        self.word = word
        self.bodies = bodies
        self.made = Places()
        self.known = {}

    def alone(self, room, edges, sets):
        return self.made.place_of([body.alone(room, edges, sets) for body in self.bodies])

    def lifted(self, state, gone, fresh, sets):
        below = self.made.row_at(state)
        return self.made.place_of([body.lifted(one, gone, fresh, sets) for body, one in zip(self.bodies, below)])

    def merged(self, state, other):
        if (state, other) not in self.known:
            below = list(zip(self.bodies, self.made.row_at(state), self.made.row_at(other)))
            self.known[(state, other)] = self.made.place_of([body.merged(one, two) for body, one, two in below])
        return self.known[(state, other)]

    def tells(self, state, sets):
        below = [body.tells(one, sets) for body, one in zip(self.bodies, self.made.row_at(state))]
        if self.word == "not":
            return not below[0]
        return all(below) if self.word == "and" else any(below)

    def told(self, state):
        return tuple([body.told(one) for body, one in zip(self.bodies, self.made.row_at(state))])


class BoundStates:
    """The states of a sentence that begins with `some` or `each`.

    They are tuples of pairs (number, state): which border nodes are in a set as the name, and the
    state of the sentence behind it to which the set leads.
    """

    def __init__(self, word, name, body):
        self.word = word
        self.name = name
        self.body = body
        self.made = Places()
        self.known = {}

    def alone(self, room, edges, sets):
        pairs = []
        for number in subsets_of(room):
            pairs.append((number, self.body.alone(room, edges, {**sets, self.name: number})))
        return self.made.place_of(pairs)

    def lifted(self, state, gone, fresh, sets):
        found = {}
        for number, below in self.made.row_at(state):
            then = self.body.lifted(below, gone, fresh, {**sets, self.name: number})
            for more in subsets_of(fresh):
                found[(number & ~gone | more, then)] = True
        return self.made.place_of(sorted(found))

    def merged(self, state, other):
        if (state, other) not in self.known:
            others = {}
            for number, below in self.made.row_at(other):
                others.setdefault(number, []).append(below)
            found = {}
            for number, one in self.made.row_at(state):
                for two in others[number]:
                    found[(number, self.body.merged(one, two))] = True
            self.known[(state, other)] = self.made.place_of(sorted(found))
        return self.known[(state, other)]

    def tells(self, state, sets):
        below = [self.body.tells(one, {**sets, self.name: number}) for number, one in self.made.row_at(state)]
        return any(below) if self.word == "some" else all(below)

    def told(self, state):
        return tuple(sorted([(number, self.body.told(one)) for number, one in self.made.row_at(state)]))


class Places:
    """A list of tuples, each once."""

    def __init__(self):
        self.rows = []
        self.places = {}

    def row_at(self, place):
        return self.rows[place]

    def place_of(self, items):
        """Return the place of the tuple of these items, which is put at the end if it is new."""
        row = tuple(items)
        if row not in self.places:
            self.places[row] = len(self.rows)
            self.rows.append(row)
        return self.places[row]
