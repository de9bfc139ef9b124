import random
import time
import unittest

from havenorhunt.answers import true_along
from havenorhunt.errors import BadSentence, GroundError
from havenorhunt.records import record, record_holds
from havenorhunt.rooms import rooms_of
from havenorhunt.sentences import read_sentence
from tests.plain import every_pair, every_small_graph, some_graph
from tests.plain_pieces import plain_record, spoilt_tuples
from tests.plain_rooms import every_rooms, several_rooms, some_rooms
from tests.plain_sentences import fitting_sentence, great_sentence, tried

ONE = (1, ())
EDGE = (2, ((0, 1),))
PATH3 = (3, ((0, 1), (1, 2)))
PATH4 = (4, ((0, 1), (1, 2), (2, 3)))
STAR4 = (4, ((0, 1), (0, 2), (0, 3)))
RING3 = (3, ((0, 1), (0, 2), (1, 2)))
ALL3 = (((0, 1, 2), -1),)
LINE3 = (((1, 2), -1), ((0, 1), 0))
# An empty room in front, and right below it a room with all nodes: these are all inside nodes of the first part.
INSIDE3 = (((), -1), ((0, 1, 2), 0))
INSIDE4 = (((), -1), ((0, 1, 2, 3), 0))

SENTENCES = [read_sentence(text) for text in (
    "some x joined x x", "each x single x", "some x empty x", "some x within x x", "not each x or empty x single x",
    "and some x joined x x each y not joined y y", "some x and single x some x empty x", "some x some y joined x y",
    "each x some y and within x y not within y x", "some x each y or within y x joined x y",
)]


def some_of(*states):
    """The state of `some` in a part with no border, where each pair has the number 0."""
    return tuple((0, state) for state in states)


class TestStatesByHand(unittest.TestCase):
    def assert_record(self, graph, rooms, text, states):
        sentence = read_sentence(text)
        self.assertEqual(record(graph, rooms, sentence), states, (graph, rooms, text))
        self.assertEqual(plain_record(graph, rooms, sentence), states, (graph, rooms, text))
        answer = tried((graph, ()), sentence, {})
        self.assertIs(record_holds(graph, rooms, sentence, states, answer), True)
        self.assertIs(record_holds(graph, rooms, sentence, states, not answer), False)

    def test_one_node(self):
        room = (((0,), -1),)
        self.assert_record(ONE, room, "some x single x", (((0, 0), (1, 0)),))
        self.assert_record(ONE, room, "each x empty x", (((0, 0), (1, 0)),))
        self.assert_record(ONE, room, "some x within x x", (((0, 1), (1, 1)),))
        self.assert_record(ONE, room, "some x joined x x", (((0, 0), (1, 0)),))
        self.assert_record(ONE, (((), -1), ((0,), 0)), "some x single x", (some_of(0, 1), ((0, 0), (1, 0))))

    def test_single_and_empty_count_inside_nodes(self):
        below = ((0, 0), (1, 0), (2, 0), (3, 0))
        first = ((0, 0), (0, 1), (2, 0), (2, 1), (4, 0), (4, 1), (6, 0), (6, 1))
        for word in ("single", "empty"):
            self.assert_record(PATH3, LINE3, f"some x {word} x", (first, below))
            self.assert_record(PATH3, ALL3, f"each x {word} x", (tuple((number, 0) for number in range(8)),))

    def test_counts_beyond_two(self):
        below = tuple((number, 0) for number in range(16))
        for word in ("single", "empty"):
            self.assert_record(STAR4, INSIDE4, f"some x {word} x", (some_of(0, 1, 2), below))
        # Two rooms, each with two nodes that are not in the one above them: counts are added up to 2.
        rooms = (((), -1), ((0, 1), 0), ((2, 3), 0))
        parts = ((0, 0), (1, 0), (2, 0), (3, 0)), ((0, 0), (4, 0), (8, 0), (12, 0))
        self.assert_record((4, ()), rooms, "some x single x", (some_of(0, 1, 2),) + parts)
        rooms = (((0,), -1), ((0, 1, 2, 3), 0))
        first = tuple((number, count) for number in (0, 1) for count in (0, 1, 2))
        self.assert_record(PATH4, rooms, "some x empty x", (first, below))

    def test_within_asks_inside_nodes_only(self):
        rooms = (((0,), -1), ((0, 1), 0))
        # x in y: for all sets at the border of the second room 1; in the first one 0 if 1 is in x and not in y.
        below = tuple((x, tuple((y, 1) for y in range(4))) for x in range(4))
        without = (0, 1), (1, 1)
        both = (0, 0), (0, 1), (1, 0), (1, 1)
        first = (0, both), (0, without), (1, both), (1, without)
        self.assert_record(EDGE, rooms, "each x some y within x y", (first, below))
        self.assert_record((2, ()), rooms, "each x some y within x y", (first, below))

    def test_joined_asks_all_edges_of_the_part(self):
        first = tuple((x, int(x in (3, 6, 7))) for x in range(8))
        self.assert_record(PATH3, ALL3, "some x joined x x", (first,))
        # The edge of 1 and 2 belongs to the first room, that of 0 and 1 to the second one.
        first = (0, 0), (2, 0), (2, 1), (4, 0), (6, 1)
        below = (0, 0), (1, 0), (2, 0), (3, 1)
        self.assert_record(PATH3, LINE3, "some x joined x x", (first, below))

    def test_an_edge_belongs_to_the_first_room(self):
        bare = (0, 0), (1, 0), (2, 0), (3, 0)
        full = (0, 0), (1, 0), (2, 0), (3, 1)
        rooms = (((0, 1), -1), ((0, 1), 0), ((0, 1), 0))
        self.assert_record(EDGE, rooms, "some x joined x x", (full, bare, bare))
        rooms = (((0,), -1), ((0, 1), 0), ((0, 1), 1))
        self.assert_record(EDGE, rooms, "some x joined x x", (((0, 0), (1, 0), (1, 1)), full, bare))
        # Both edges of a ring at 1 belong to the second room, the edge of 0 and 2 to the first one.
        rooms = (((0, 2), -1), ((0, 1, 2), 0))
        below = tuple((x, int(x in (3, 6, 7))) for x in range(8))
        first = (0, 0), (1, 0), (1, 1), (4, 0), (4, 1), (5, 1)
        self.assert_record(RING3, rooms, "some x joined x x", (first, below))

    def test_a_node_in_several_rooms_counts_once(self):
        rooms = (((), -1), ((1,), 0), ((0, 1), 1), ((1, 2), 1))
        first = some_of(0, 1, 2)
        second = (0, 0), (0, 1), (0, 2), (2, 0), (2, 1), (2, 2)
        third, fourth = ((0, 0), (1, 0), (2, 0), (3, 0)), ((0, 0), (2, 0), (4, 0), (6, 0))
        self.assert_record(PATH3, rooms, "some x single x", (first, second, third, fourth))

    def test_not_and_or(self):
        room = (((0,), -1),)
        self.assert_record(ONE, room, "not some x single x", ((((0, 0), (1, 0)),),))
        self.assert_record(ONE, room, "some x not single x", (((0, (0,)), (1, (0,))),))
        self.assert_record(ONE, room, "each x and single x within x x", (((0, (0, 1)), (1, (0, 1))),))
        self.assert_record(ONE, room, "some x or joined x x not within x x", (((0, (0, (1,))), (1, (0, (1,)))),))
        two = ((0, 0), (1, 0))
        self.assert_record(ONE, room, "and some x single x each y empty y", ((two, two),))
        self.assert_record(ONE, room, "or not some x single x each y empty y", (((two,), two),))
        inside = (((), -1), ((0,), 0))
        states = some_of((0, 1), (1, 1)), ((0, (0, 1)), (1, (0, 1)))
        self.assert_record(ONE, inside, "each x and single x within x x", states)

    def test_some_and_each_within_one_another(self):
        room, inside = (((0,), -1),), (((), -1), ((0,), 0))
        below = (0, ((0, 1), (1, 1))), (1, ((0, 1), (1, 1)))
        self.assert_record(ONE, room, "some x each y within x y", (below,))
        self.assert_record(ONE, inside, "each x some y within x y", (some_of(some_of(0, 1), some_of(1)), below))
        # The first room with nodes has pairs with one number and several states.
        states = some_of(some_of(0), some_of(0, 1)), ((0, ((0, 0), (1, 0), (2, 0), (3, 0))),) + tuple(
            (x, tuple((y, int((x, y) in ((1, 2), (2, 1), (3, 1), (3, 2), (1, 3), (2, 3), (3, 3)))) for y in range(4)))
            for x in (1, 2, 3)
        )
        self.assert_record(EDGE, (((), -1), ((0, 1), 0)), "some x some y joined x y", states)

    def test_a_name_bound_again(self):
        states = ((0, (0, ((0, 0), (1, 0)))), (1, (0, ((0, 0), (1, 0))))),
        self.assert_record(ONE, (((0,), -1),), "some x and single x some x empty x", states)

    def test_empty_rooms(self):
        rooms = (((), -1), ((), 0), ((0,), 1), ((), 2))
        states = some_of(0, 1), some_of(0, 1), ((0, 0), (1, 0)), some_of(0)
        self.assert_record(ONE, rooms, "some x single x", states)


class TestRecord(unittest.TestCase):
    def assert_tuples_ascend(self, sentence, state):
        """Each tuple of pairs of `some` and `each` ascends, each pair once."""
        if sentence[0] in ("some", "each"):
            self.assertEqual(list(state), sorted(set(state)))
            for _, below in state:
                self.assert_tuples_ascend(sentence[2], below)
        elif sentence[0] in ("not", "and", "or"):
            for part, below in zip(sentence[1:], state):
                self.assert_tuples_ascend(part, below)
        else:
            self.assertIs(type(state), int)

    def assert_record(self, graph, rooms, sentence):
        where = (graph, rooms, sentence)
        states = record(graph, rooms, sentence)
        self.assertEqual(states, plain_record(graph, rooms, sentence), where)
        for state in states:
            self.assert_tuples_ascend(sentence, state)
        answer = tried((graph, ()), sentence, {})
        self.assertIs(true_along(graph, rooms, sentence), answer, where)
        self.assertIs(record_holds(graph, rooms, sentence, states, answer), True, where)
        self.assertIs(record_holds(graph, rooms, sentence, states, not answer), False, where)
        return answer

    def test_small_graphs_along_several_trees(self):
        chance = random.Random(31)
        told = []
        for graph in every_small_graph(4):
            trees = list(several_rooms(chance, graph))
            for sentence in SENTENCES if graph[0] < 4 else chance.sample(SENTENCES, 2):
                for rooms in trees:
                    told.append(self.assert_record(graph, rooms, sentence))
        self.assertTrue(100 < sum(told) < len(told) - 100)

    def test_every_tree_of_two_rooms(self):
        chance = random.Random(32)
        for graph in every_small_graph(3):
            for rooms in every_rooms(graph, 2):
                self.assert_record(graph, rooms, chance.choice(SENTENCES))

    def test_drawn_sentences(self):
        chance = random.Random(33)
        for graph in every_small_graph(3):
            for _ in range(12):
                sentence = fitting_sentence(chance, graph[0], free=0)
                for rooms in several_rooms(chance, graph):
                    self.assert_record(graph, rooms, sentence)

    def test_larger_graphs(self):
        chance = random.Random(34)
        for _ in range(25):
            graph = some_graph(chance, chance.randint(4, 6))
            sentence = fitting_sentence(chance, graph[0], free=0)
            self.assert_record(graph, some_rooms(chance, graph, chance.randint(0, 6)), sentence)
        for _ in range(10):
            graph = some_graph(chance, chance.randint(7, 8))
            self.assert_record(graph, some_rooms(chance, graph, 4), fitting_sentence(chance, graph[0], free=0))

    def test_free_names(self):
        for text in ("single x", "within x y", "some x within x y", "and single x some x single x", "joined x x"):
            with self.assertRaises(BadSentence) as caught:
                record(PATH3, LINE3, read_sentence(text))
            self.assertIsInstance(caught.exception, GroundError)

    def test_no_long_waiting(self):
        chance = random.Random(35)
        start = time.process_time()
        for count, bound in ((8, "x"), (6, "xy"), (4, "xyz"), (2, "xyz")):
            sentence = great_sentence(chance, "", bound, min(4, 7 - 2 * len(bound)))
            graph = (count, tuple(every_pair(count)))
            nodes = tuple(range(count))
            path = (count, tuple((node, node + 1) for node in range(count - 1)))
            for graph, rooms in (
                (graph, ((nodes, -1),) + tuple((nodes, at) for at in range(19))),
                (graph, ((nodes, -1),) + ((nodes, 0),) * 19), (path, rooms_of(path, nodes)),
            ):
                states = record(graph, rooms, sentence)
                answer = tried((graph, ()), sentence, {})
                self.assertIs(record_holds(graph, rooms, sentence, states, answer), True)
        self.assertLess(time.process_time() - start, 40)


class TestRecordHolds(unittest.TestCase):
    CASES = (
        (PATH3, LINE3, "some x joined x x"),
        (PATH3, INSIDE3, "each x or empty x single x"),
        (EDGE, (((), -1), ((0, 1), 0), ((1,), 1)), "some x not each y within x y"),
        (EDGE, (((1,), -1), ((0, 1), 0)), "each x some y and joined x y single y"),
        (RING3, (((0, 2), -1), ((0, 1, 2), 0), ((0,), 0)), "and some x joined x x not each y single y"),
        (ONE, (((0,), -1), ((0,), 0)), "some x some y some z within x z"),
        (ONE, (((), -1), ((0,), 0)), "some x and single x some x empty x"),
    )

    def test_single_faults(self):
        seen = {}
        for graph, rooms, text in self.CASES:
            sentence = read_sentence(text)
            states = record(graph, rooms, sentence)
            for what, spoilt in spoilt_tuples(states):
                if type(spoilt) is int or spoilt == states:
                    continue
                seen[what] = seen.get(what, 0) + 1
                for answer in (True, False):
                    self.assertIs(record_holds(graph, rooms, sentence, spoilt, answer), False, (text, spoilt))
        kinds = ("number", "tuple for a number", "number for a tuple", "nested", "left out", "added", "exchanged")
        self.assertTrue(all(seen[what] > 20 for what in kinds), seen)

    def test_states_exchanged_or_taken_from_another_record(self):
        for graph, rooms, text in self.CASES:
            sentence = read_sentence(text)
            states = record(graph, rooms, sentence)
            answer = true_along(graph, rooms, sentence)
            for other in (states[::-1], states[1:], states[:-1], states + states, states[:1] * len(states), (states,)):
                self.assertIs(record_holds(graph, rooms, sentence, other, answer), other == states)
        some, each = read_sentence("some x single x"), read_sentence("each x single x")
        states = record(PATH3, LINE3, some)
        self.assertEqual(states, record(PATH3, LINE3, each))
        self.assertIs(record_holds(PATH3, LINE3, some, states, True), True)
        self.assertIs(record_holds(PATH3, LINE3, each, states, True), False)
        self.assertIs(record_holds(PATH3, LINE3, each, states, False), True)
        self.assertIs(record_holds((3, ((0, 1),)), LINE3, some, states, True), True)
        joined = read_sentence("some x joined x x")
        states = record(PATH3, LINE3, joined)
        for edges in ((), ((0, 1),), ((1, 2),)):
            self.assertIs(record_holds((3, edges), LINE3, joined, states, True), False)

    def test_a_fault_in_one_room_that_the_others_follow(self):
        """States that follow from one another from a wrong one on are no record."""
        sentence = read_sentence("some x joined x x")
        first, below = record(PATH3, LINE3, sentence)
        other_first, other_below = record((3, ((1, 2),)), LINE3, sentence)
        self.assertNotEqual((first, below), (other_first, other_below))
        for states in ((other_first, other_below), (first, other_below), (other_first, below)):
            for answer in (True, False):
                self.assertIs(record_holds(PATH3, LINE3, sentence, states, answer), False)

    def test_no_tuple_raises_an_error(self):
        deep = ()
        for _ in range(3000):
            deep = (deep,)
        very_deep = deep
        for _ in range(50000):
            very_deep = (0, very_deep)
        tuples = [(), (0,), (1,), ((),), ((), ()), (0, 0), ((0,), (0,)), (((0, 0),),), (((0, 0), (1, 0)),) * 2, deep,
                  very_deep, (deep, deep), (-1, -2), (10 ** 40,), ((0, deep), (deep, 0)), (((0, (deep,)),),) * 2,
                  tuple(range(1000)), (((0, 0, 0),),) * 2, (((), ()), ((), ()))]
        for graph, rooms, text in self.CASES:
            sentence = read_sentence(text)
            for states in tuples:
                for answer in (True, False):
                    self.assertIs(record_holds(graph, rooms, sentence, states, answer), False)

    def test_drawn_tuples(self):
        chance = random.Random(36)

        def drawn(depth):
            if depth == 0 or chance.random() < 0.3:
                return chance.choice((-1, 0, 0, 1, 1, 2, 3))
            return tuple(drawn(depth - 1) for _ in range(chance.randint(0, 4)))

        sentence = read_sentence("some x joined x x")
        for rooms in (LINE3, ALL3, INSIDE3):
            wanted = record(PATH3, rooms, sentence)
            for _ in range(500):
                states = tuple(drawn(4) for _ in rooms)
                self.assertIs(record_holds(PATH3, rooms, sentence, states, True), states == wanted)


if __name__ == "__main__":
    unittest.main()
