"""What sentences mean in graphs and in pieces, where all sets of nodes are tried."""

from havenorhunt.masks import mask_of
from havenorhunt.sentences import binds, rank

# Sets of so many nodes in all are tried at once. More would make numbers of more than 2048 bits.
_MOST_BITS = 11


def holds(graph, sentence, sets):
    """Tell whether a sentence without `at` holds in a graph, with these sets as its free names."""
    return holds_in((graph, ()), sentence, sets)


def holds_in(piece, sentence, sets):
    """Tell whether a sentence holds in a piece, with these sets as its free names."""
    trials = Trials(piece, rank(sentence))
    columns = {name: trials.column_of(mask_of(nodes)) for name, nodes in sets}
    return trials.table_of(sentence, columns, 0) == trials.full


class Trials:
    """Many trials at once, each with sets of a piece's nodes as the names that are bound outermost.

    A trial is a number: the bits of the first name's set are its lowest ones. A table is a number
    too: the bit 1 << trial is set if something is so in the trial. A column is a list with a table
    for each node, which tells where the node is in a name's set.
    """

    def __init__(self, piece, depth):
        graph, self.border = piece
        self.size, self.edges = graph
        # How many names around one another have their sets tried at once; those within one by one.
        self.levels = min(depth, _MOST_BITS // self.size)
        bits = range(self.size * self.levels)
        self.full = (1 << (1 << len(bits))) - 1
        # For each bit of the trials the table of the trials in which it is not set.
        self.lows = [self.full // ((1 << (1 << bit)) + 1) for bit in bits]

    def column_of(self, mask):
        """Return the column of one set, the same in all trials."""
        return [self.full if (mask >> node) & 1 else 0 for node in range(self.size)]

    def table_of(self, sentence, columns, around):
        """Return the table of a sentence with so many names bound around it."""
        word = sentence[0]
        if binds(sentence):
            return self._bound_table(sentence, columns, around)
        if word == "not":
            return self.full ^ self.table_of(sentence[1], columns, around)
        if word == "and":
            return self.table_of(sentence[1], columns, around) & self.table_of(sentence[2], columns, around)
        if word == "or":
            return self.table_of(sentence[1], columns, around) | self.table_of(sentence[2], columns, around)
        return self._fact_table(sentence, columns)

    def _bound_table(self, sentence, columns, around):
        word, name, body = sentence
        # A sentence holds for each set if for no set it does not hold.
        turned = self.full if word == "each" else 0
        if around < self.levels:
            bits = list(range(around * self.size, (around + 1) * self.size))
            inner = {**columns, name: [self.full ^ self.lows[bit] for bit in bits]}
            return turned ^ self._for_some(turned ^ self.table_of(body, inner, around + 1), bits)
        found = 0
        for mask in range(1 << self.size):
            inner = {**columns, name: self.column_of(mask)}
            found = found | (turned ^ self.table_of(body, inner, around + 1))
        return turned ^ found

    def _for_some(self, table, bits):
        """Return the table of where a table holds when these bits of the trial are changed in some way."""
        for bit in bits:
            low = self.lows[bit]
            table = table | (table & low) << (1 << bit) | (table >> (1 << bit)) & low
        return table

    def _fact_table(self, sentence, columns):
        word = sentence[0]
        # Behind `at` the first item is no name, behind `single` and `empty` it is also the last one.
        last = columns[sentence[-1]]
        if word == "at":
            return last[self.border[sentence[1]]]
        first = columns[sentence[1]]
        if word == "within":
            return self.full & ~_any_of([one & ~two for one, two in zip(first, last)])
        if word == "joined":
            return _any_of([first[one] & last[two] | first[two] & last[one] for one, two in self.edges])
        some = _any_of(first)
        if word == "empty":
            return self.full & ~some
        return some & ~_two_of(first)


def _any_of(tables):
    """Return the table of where at least one table holds."""
    found = 0
    for table in tables:
        found = found | table
    return found


def _two_of(tables):
    """Return the table of where at least two tables hold."""
    one, two = 0, 0
    for table in tables:
        two = two | one & table
        one = one | table
    return two
