"""What point 1 says of all values: sets ascend, and what is passed is neither kept nor changed."""

import copy
import random
import unittest

from havenorhunt.answers import count_along, least_along, sets_along, true_along
from havenorhunt.blockades import blockade, blockade_holds
from havenorhunt.errors import GroundError
from havenorhunt.graphs import border, parts
from havenorhunt.havens import haven, haven_holds
from havenorhunt.lines import best_line, line_need, plan_of_line
from havenorhunt.meaning import holds, holds_in
from havenorhunt.needs import best_plan, decide, need, straighten
from havenorhunt.orders import best_order, order_need
from havenorhunt.plans import caught_at, gives_ground, hunt_holds, possible_after, searchers_of
from havenorhunt.parting import parting
from havenorhunt.pieces import alike, answer, glue
from havenorhunt.records import record, record_holds
from havenorhunt.rooms import hunt_of, plan_of, rooms_hold, rooms_of
from havenorhunt.sentences import free_names, rank, read_sentence, write_sentence
from havenorhunt.small import obstacle, ring, ring_holds, spider, spider_holds
from tests.plain import some_graph
from tests.plain_papers import some_tree

CLOSED = read_sentence("each x or empty x some y and single y within y x")
OPEN = read_sentence("and not joined x x not empty x")
SPIDER = (7, ((0, 1), (0, 2), (0, 3), (1, 4), (2, 5), (3, 6)))


def calls_for(graph):
    """Calls of the interface, each as a function and its arguments."""
    order, line = best_order(graph), best_line(graph)
    rooms = rooms_of(graph, order)
    calls = [
        (parts, graph, (0,)), (border, graph, (0,)), (best_order, graph), (order_need, graph, order),
        (rooms_of, graph, order), (rooms_hold, graph, 8, rooms), (hunt_of, graph, rooms), (plan_of, rooms),
        (best_line, graph), (line_need, graph, line), (plan_of_line, graph, line), (ring, graph),
        (ring_holds, graph, (0, 1, 2)), (spider_holds, graph, (0, (1, 2))), (haven, graph, 1),
        (haven_holds, graph, 1, haven(graph, 1) or ()), (hunt_holds, graph, 8, hunt_of(graph, rooms)),
    ]
    for sentence in (CLOSED, OPEN):
        sets = tuple((name, (0, 2)) for name in free_names(sentence))
        calls += [
            (write_sentence, sentence), (free_names, sentence), (rank, sentence), (holds, graph, sentence, sets),
            (holds_in, (graph, (2, 0)), sentence, sets),
        ]
    if graph[0] < 7:
        states = record(graph, rooms, CLOSED)
        calls += [
            (true_along, graph, rooms, CLOSED), (record, graph, rooms, CLOSED),
            (record_holds, graph, rooms, CLOSED, states, True), (record_holds, graph, rooms, CLOSED, states, False),
        ]
    piece, other = (graph, (2, 0)), ((3, ((0, 1),)), (0, 1))
    calls += [
        (alike, piece, other, 1), (parting, piece, other, 1), (parting, other, piece, 1), (glue, piece, other),
        (answer, piece, other, (((0,), (1,)),), (0, 2), 0), (answer, piece, piece, (), (0, 2), 1),
    ]
    prices = tuple(range(-3, graph[0] - 3))
    calls += [
        (read_sentence, "at 2 x"), (count_along, graph, rooms, OPEN), (sets_along, graph, rooms, OPEN),
        (least_along, graph, rooms, OPEN, prices),
    ]
    for runner in ("unseen", "lazy"):
        plan = best_plan(graph, runner)
        pairs = blockade(graph, 1, runner) or ()
        calls += [
            (possible_after, graph, plan, runner), (caught_at, graph, plan, runner), (searchers_of, plan),
            (gives_ground, graph, plan, runner), (straighten, graph, plan, runner),
            (blockade, graph, 1, runner), (blockade_holds, graph, 1, runner, pairs),
        ]
    for runner in ("seen", "unseen", "lazy"):
        calls += [(need, graph, runner), (best_plan, graph, runner), (obstacle, graph, 2, runner)]
        calls += [(decide, graph, count, runner) for count in (1, 8)]
    if ring(graph) is None:
        calls.append((spider, graph))
    return calls


class TestValues(unittest.TestCase):
    def assert_plain(self, worth, where):
        """Nothing but tuples of integers, strings, True, False and None."""
        self.assertIn(type(worth), (tuple, int, str, bool, type(None)), where)
        if type(worth) is tuple:
            for item in worth:
                self.assert_plain(item, where)

    def assert_set(self, nodes, where):
        self.assertEqual(nodes, tuple(sorted(set(nodes))), where)

    def graphs(self):
        chance = random.Random(1)
        drawn = [some_graph(chance, chance.randint(3, 7)) for _ in range(15)]
        return drawn + [some_tree(chance, 7) for _ in range(5)] + [SPIDER]

    def test_only_tuples_are_returned(self):
        for graph in self.graphs():
            for function, *passed in calls_for(graph):
                self.assert_plain(function(*passed), (function, passed))

    def test_what_is_passed_stays_and_nothing_is_kept(self):
        for graph in self.graphs():
            for function, *passed in calls_for(graph):
                before = copy.deepcopy(passed)
                first = function(*passed)
                self.assertEqual(passed, before, function)
                self.assertEqual(function(*passed), first, function)

    def test_a_call_that_raises_an_error_changes_nothing(self):
        rooms = rooms_of(SPIDER, best_order(SPIDER))
        prices = (1,) * 7
        for function, *passed in (
            (read_sentence, "some x"), (true_along, SPIDER, rooms, OPEN),
            (least_along, SPIDER, rooms, read_sentence("some x empty x"), prices), (record, SPIDER, rooms, OPEN),
        ):
            before = copy.deepcopy(passed)
            for _ in range(2):
                self.assertRaises(GroundError, function, *passed)
            self.assertEqual(passed, before)

    def test_sets_ascend(self):
        for graph in self.graphs():
            rooms = rooms_of(graph, best_order(graph))
            plans = [best_plan(graph, runner) for runner in ("unseen", "lazy")] + [plan_of(rooms)]
            papers = [haven(graph, 1)] + [blockade(graph, 1, runner) for runner in ("unseen", "lazy")]
            for nodes in [room for room, _ in rooms] + [standing for plan in plans for standing in plan]:
                self.assert_set(nodes, graph)
            for pairs in papers:
                if pairs is not None:
                    self.assert_set(pairs, graph)
                    for standing, nodes in pairs:
                        self.assert_set(standing, graph)
                        self.assert_set(nodes, graph)
            rows = sets_along(graph, rooms, OPEN)
            self.assert_set(rows, graph)
            for (nodes,) in rows:
                self.assert_set(nodes, graph)


if __name__ == "__main__":
    unittest.main()
