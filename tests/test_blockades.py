import random
import unittest

from havenorhunt.blockades import blockade, blockade_holds
from havenorhunt.graphs import read_graph
from havenorhunt.lines import best_line, line_need
from havenorhunt.orders import best_order, order_need
from havenorhunt.plans import possible_after
from tests.plain import every_pair, every_set, every_small_graph, some_graph, some_set
from tests.plain_papers import (
    HIDDEN, is_caught, least_need, plain_blockade_holds, plain_caught, shapes, small_shapes,
)

EDGE = (2, ((0, 1),))
PATH3 = (3, ((0, 1), (1, 2)))
RING3 = (3, ((0, 1), (0, 2), (1, 2)))
STAR4 = (4, ((0, 1), (0, 2), (0, 3)))
SPIDER = (7, ((0, 1), (0, 2), (0, 3), (1, 4), (2, 5), (3, 6)))
CUBE = read_graph("8: 0-1 0-2 0-4 1-3 1-5 2-3 2-6 3-7 4-5 4-6 5-7 6-7")

UNSEEN1 = (((), (0, 1)), ((0,), (1,)), ((1,), (0,)))
LAZY1 = (((), (0,)), ((), (1,)), ((0,), (1,)), ((1,), (0,)))
UNSEEN2 = (
    ((), (0, 1, 2)), ((0,), (1, 2)), ((0, 1), (2,)), ((0, 2), (1,)), ((1,), (0, 2)), ((1, 2), (0,)), ((2,), (0, 1)),
)


def spoilt_blockades(graph, count, pairs):
    """Pairs (what was done, pairs), in each of which one thing is changed."""
    for at, (standing, nodes) in enumerate(pairs):
        front, back = pairs[:at], pairs[at + 1:]
        yield "left out", front + back
        yield "twice", front + (pairs[at], pairs[at]) + back
        for there, other in enumerate(back):
            yield "exchanged", front + (other,) + back[:there] + (pairs[at],) + back[there + 1:]
        for other in every_set(graph[0]):
            pair = (standing, other)
            if not other:
                yield "empty", tuple(sorted(front + (pair,) + back))
            elif set(other) & set(standing):
                yield "of the standing", tuple(sorted(front + (pair,) + back))
            elif pair not in pairs:
                what = "less" if set(other) < set(nodes) else "other"
                yield what, tuple(sorted(front + (pair,) + back))
            if len(other) > count:
                left = tuple(node for node in range(graph[0]) if node not in other)
                yield "too many", tuple(sorted(pairs + ((other, left),)))


def need_of(graph, runner):
    """The need of a runner in a graph that is too large for trying all orders."""
    if runner == "unseen":
        return line_need(graph, best_line(graph))
    return order_need(graph, best_order(graph))


class TestBlockadeHolds(unittest.TestCase):
    def test_one_node(self):
        for runner in HIDDEN:
            self.assertIs(blockade_holds((1, ()), 0, runner, (((), (0,)),)), True)
            self.assertIs(blockade_holds((1, ()), 1, runner, (((), (0,)),)), False)
            self.assertIs(blockade_holds((1, ()), 1, runner, (((), (0,)), ((0,), ()))), False)
            self.assertIs(blockade_holds((1, ()), 1, runner, (((), (0,)), ((0,), (0,)))), False)

    def test_an_edge(self):
        self.assertIs(blockade_holds(EDGE, 1, "unseen", UNSEEN1), True)
        self.assertIs(blockade_holds(EDGE, 1, "lazy", LAZY1), True)
        # The lazy runner of 0 stays there when the searcher leaves 1.
        self.assertIs(blockade_holds(EDGE, 1, "lazy", UNSEEN1), False)
        # The unseen one is on 0 or 1 then: so less than both is no harm.
        self.assertIs(blockade_holds(EDGE, 1, "unseen", LAZY1), True)

    def test_a_ring(self):
        self.assertIs(blockade_holds(RING3, 2, "unseen", UNSEEN2), True)
        self.assertIs(blockade_holds(RING3, 2, "lazy", UNSEEN2), False)
        for count in (1, 3, 4):
            self.assertIs(blockade_holds(RING3, count, "unseen", UNSEEN2), False)

    def test_no_searchers(self):
        for runner in HIDDEN:
            for nodes in every_set(3):
                self.assertIs(blockade_holds(PATH3, 0, runner, (((), nodes),)), nodes != ())

    def test_no_pairs(self):
        for graph in every_small_graph(3):
            for count in range(9):
                for runner in HIDDEN:
                    self.assertIs(blockade_holds(graph, count, runner, ()), False)

    def test_a_pair_left_out(self):
        for runner, pairs in (("unseen", UNSEEN1), ("lazy", LAZY1)):
            for at in range(len(pairs)):
                self.assertIs(blockade_holds(EDGE, 1, runner, pairs[:at] + pairs[at + 1:]), False)

    def test_no_pair_for_the_empty_standing(self):
        self.assertIs(blockade_holds(EDGE, 1, "unseen", UNSEEN1[1:]), False)
        self.assertIs(blockade_holds(EDGE, 1, "lazy", LAZY1[2:]), False)
        self.assertIs(blockade_holds(EDGE, 0, "lazy", (((0,), (1,)),)), False)

    def test_a_pair_twice(self):
        for runner, pairs in (("unseen", UNSEEN1), ("lazy", LAZY1)):
            for at in range(len(pairs)):
                twice = pairs[:at] + pairs[at:at + 1] + pairs[at:]
                self.assertIs(blockade_holds(EDGE, 1, runner, twice), False)

    def test_pairs_that_do_not_ascend(self):
        for runner, pairs in (("unseen", UNSEEN1), ("lazy", LAZY1)):
            for at in range(len(pairs) - 1):
                changed = pairs[:at] + (pairs[at + 1], pairs[at]) + pairs[at + 2:]
                self.assertIs(blockade_holds(EDGE, 1, runner, changed), False)

    def test_an_empty_set(self):
        for at in range(len(UNSEEN1)):
            changed = UNSEEN1[:at] + ((UNSEEN1[at][0], ()),) + UNSEEN1[at + 1:]
            self.assertIs(blockade_holds(EDGE, 1, "unseen", changed), False)
        # Also beside other sets of the standing, and where nothing else could go wrong.
        for runner in HIDDEN:
            self.assertIs(blockade_holds(EDGE, 1, runner, (((), ()),) + LAZY1), False)
            self.assertIs(blockade_holds(EDGE, 0, runner, (((), ()),)), False)
            every = tuple(sorted((standing, nodes) for standing in ((), (0,), (1,)) for nodes in ((), (0,), (1,))))
            self.assertIs(blockade_holds(EDGE, 1, runner, every), False)

    def test_a_set_with_a_node_of_the_standing(self):
        for runner in HIDDEN:
            for nodes in ((0,), (0, 1)):
                self.assertIs(blockade_holds(EDGE, 1, runner, tuple(sorted(LAZY1 + (((0,), nodes),)))), False)
        self.assertIs(blockade_holds(EDGE, 1, "unseen", UNSEEN1[:1] + (((0,), (0, 1)),) + UNSEEN1[2:]), False)

    def test_a_standing_with_too_many_nodes(self):
        for runner in HIDDEN:
            self.assertIs(blockade_holds(EDGE, 0, runner, LAZY1), False)
            self.assertIs(blockade_holds(EDGE, 0, runner, (((), (0,)), ((0,), (1,)))), False)
            self.assertIs(blockade_holds(RING3, 1, runner, blockade(RING3, 2, runner)), False)
            self.assertIs(blockade_holds(RING3, 2, runner, blockade(RING3, 2, runner)), True)

    def test_a_greater_set(self):
        # Not all of it is possible when the searchers come from elsewhere.
        pairs = (((), (0, 1)), ((0,), (1, 2)), ((1,), (0, 2)), ((2,), (0, 1)))
        self.assertIs(blockade_holds((3, ((0, 1),)), 1, "unseen", pairs), False)
        pairs = (((), (0, 1)), ((0,), (1,)), ((1,), (0,)), ((2,), (0, 1)))
        self.assertIs(blockade_holds((3, ((0, 1),)), 1, "unseen", pairs), True)
        self.assertIs(blockade_holds((3, ((0, 1),)), 1, "unseen", (((), (0, 1, 2)),) + pairs[1:]), False)

    def test_a_lesser_set(self):
        self.assertIs(blockade_holds(EDGE, 1, "lazy", (((), (0,)), ((0,), (1,)), ((1,), (0,)))), False)
        # The unseen runner goes from 0 to anywhere while nobody stays.
        self.assertIs(blockade_holds(EDGE, 1, "unseen", (((), (0,)), ((0,), (1,)), ((1,), (0,)))), True)
        pairs = (((), (2,)), ((0,), (1,)), ((1,), (0,)), ((2,), (0, 1)))
        self.assertIs(blockade_holds((3, ((0, 1),)), 1, "unseen", pairs), False)

    def test_single_faults(self):
        always = ("left out", "twice", "exchanged", "empty", "of the standing", "too many")
        told = set()
        for graph in every_small_graph(3):
            for runner in HIDDEN:
                for count in range(least_need(graph, runner)):
                    pairs = blockade(graph, count, runner)
                    for what, changed in spoilt_blockades(graph, count, pairs):
                        where = (graph, count, runner, what, changed)
                        found = blockade_holds(graph, count, runner, changed)
                        self.assertIs(found, plain_blockade_holds(graph, count, runner, changed), where)
                        told.add((runner, what, found))
                        if what in always[1:]:
                            self.assertIs(found, False, where)
        for runner in HIDDEN:
            for what in (*always, "other"):
                self.assertIn((runner, what, False), told)
            self.assertIn((runner, "less", True), told)
        self.assertIn(("lazy", "less", False), told)

    def test_single_faults_of_larger_blockades(self):
        chance = random.Random(20)
        for _ in range(30):
            graph = some_graph(chance, chance.randint(4, 6))
            for runner in HIDDEN:
                count = chance.randint(0, min(3, need_of(graph, runner) - 1))
                pairs = blockade(graph, count, runner)
                changes = list(spoilt_blockades(graph, count, pairs))
                for what, changed in chance.sample(changes, min(15, len(changes))):
                    found = blockade_holds(graph, count, runner, changed)
                    where = (graph, count, runner, what, changed)
                    self.assertIs(found, plain_blockade_holds(graph, count, runner, changed), where)

    def test_drawn_pairs(self):
        chance = random.Random(2)
        told = {(runner, found): 0 for runner in HIDDEN for found in (True, False)}
        for _ in range(3000):
            graph = some_graph(chance, chance.randint(1, 3))
            runner, count = chance.choice(HIDDEN), chance.randint(0, 2)
            every = [(one, two) for one in every_set(graph[0]) for two in every_set(graph[0])]
            every = [(one, two) for one, two in every if two and len(one) <= count and not set(one) & set(two)]
            share = chance.choice((0.3, 0.6, 0.9, 1))
            pairs = tuple(sorted(pair for pair in every if chance.random() < share))
            found = blockade_holds(graph, count, runner, pairs)
            self.assertIs(found, plain_blockade_holds(graph, count, runner, pairs), (graph, count, runner, pairs))
            told[runner, found] += 1
        self.assertGreater(min(told.values()), 100)


class TestBlockade(unittest.TestCase):
    def assert_blockade(self, graph, count, runner, need):
        pairs = blockade(graph, count, runner)
        where = (graph, count, runner, pairs)
        if count >= need:
            self.assertIs(pairs, None, where)
        else:
            self.assertTrue(plain_blockade_holds(graph, count, runner, pairs), where)
            self.assertIs(blockade_holds(graph, count, runner, pairs), True, where)

    def test_one_node(self):
        for runner in HIDDEN:
            self.assertEqual(blockade((1, ()), 0, runner), (((), (0,)),))
            for count in range(1, 9):
                self.assertIs(blockade((1, ()), count, runner), None)

    def test_an_edge(self):
        self.assertEqual(blockade(EDGE, 1, "lazy"), LAZY1)
        for runner in HIDDEN:
            self.assert_blockade(EDGE, 1, runner, 2)
            self.assertIs(blockade(EDGE, 2, runner), None)

    def test_spider(self):
        self.assert_blockade(SPIDER, 2, "unseen", 3)
        self.assertIs(blockade(SPIDER, 2, "lazy"), None)
        self.assertIs(blockade(SPIDER, 3, "unseen"), None)
        self.assertIs(blockade(STAR4, 2, "unseen"), None)

    def test_small_graphs(self):
        for graph in every_small_graph(4):
            for runner in HIDDEN:
                for count in range(graph[0] + 2):
                    self.assert_blockade(graph, count, runner, least_need(graph, runner))

    def test_five_nodes(self):
        for graph in shapes(5):
            for runner in HIDDEN:
                for count in range(9):
                    pairs = blockade(graph, count, runner)
                    self.assertIs(pairs is None, count >= least_need(graph, runner), (graph, count, runner))
                    if pairs is not None:
                        self.assertIs(blockade_holds(graph, count, runner, pairs), True, (graph, count, runner))

    def test_none_exactly_where_the_searchers_win(self):
        for graph in small_shapes(4):
            for runner in HIDDEN:
                for count in range(graph[0] + 1):
                    where = (graph, count, runner)
                    self.assertIs(blockade(graph, count, runner) is None, is_caught(graph, count, runner), where)

    def test_drawn_plans_do_not_catch(self):
        chance = random.Random(4)
        for _ in range(60):
            graph = some_graph(chance, chance.randint(3, 8))
            for runner in HIDDEN:
                count = need_of(graph, runner) - 1
                pairs = blockade(graph, count, runner)
                plan = tuple(some_set(chance, graph[0], count) for _ in range(30))
                self.assertFalse(plain_caught(graph, plan, runner), (graph, runner, plan))
                for standing, possible in zip(plan, possible_after(graph, plan, runner)):
                    within = [set(nodes) <= set(possible) for other, nodes in pairs if other == standing]
                    self.assertTrue(any(within), (graph, runner, plan))

    def test_seven_and_eight_nodes(self):
        chance = random.Random(22)
        for _ in range(12):
            graph = some_graph(chance, chance.randint(6, 8))
            for runner in HIDDEN:
                need = need_of(graph, runner)
                for count in range(9):
                    pairs = blockade(graph, count, runner)
                    self.assertIs(pairs is None, count >= need, (graph, count, runner))
                    if pairs is not None:
                        self.assertIs(blockade_holds(graph, count, runner, pairs), True, (graph, count, runner))

    def test_larger_graphs_by_name(self):
        sides = (8, tuple((one, two) for one in range(4) for two in range(4, 8)))
        every, edge = (8, tuple(every_pair(8))), (8, ((0, 1),))
        named = ((every, 8, 8), (sides, 5, 5), (CUBE, 5, 4), ((8, ()), 1, 1), (edge, 2, 2))
        for graph, unseen, lazy in named:
            for runner, need in (("unseen", unseen), ("lazy", lazy)):
                for count in (need - 1, need):
                    pairs = blockade(graph, count, runner)
                    self.assertIs(pairs is None, count >= need, (graph, count, runner))
                    if pairs is not None:
                        self.assertIs(blockade_holds(graph, count, runner, pairs), True, (graph, count, runner))
        self.assertTrue(plain_blockade_holds(CUBE, 3, "lazy", blockade(CUBE, 3, "lazy")))
        self.assertTrue(plain_blockade_holds(CUBE, 4, "unseen", blockade(CUBE, 4, "unseen")))

    def test_beyond_the_limits(self):
        ring = (10, tuple(sorted([(0, 9)] + [(node, node + 1) for node in range(9)])))
        for runner in HIDDEN:
            self.assertIs(blockade_holds(ring, 2, runner, blockade(ring, 2, runner)), True)
            self.assertIs(blockade(ring, 3, runner), None)
            self.assertIs(blockade(ring, 20, runner), None)
            self.assertIs(blockade_holds(ring, 20, runner, blockade(ring, 2, runner)), False)


if __name__ == "__main__":
    unittest.main()
