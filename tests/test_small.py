import random
import unittest
from itertools import product

from havenorhunt.graphs import read_graph
from havenorhunt.needs import need
from havenorhunt.small import obstacle, ring, ring_holds, spider, spider_holds
from tests.plain import every_graph, every_pair, every_small_graph, some_graph
from tests.plain_papers import (
    RUNNERS, has_ring, has_spider, plain_ring_holds, plain_spider_holds, renumbered, some_tree,
)
from tests.plain_rooms import some_order

PATH3 = (3, ((0, 1), (1, 2)))
RING3 = (3, ((0, 1), (0, 2), (1, 2)))
SPIDER = (7, ((0, 1), (0, 2), (0, 3), (1, 4), (2, 5), (3, 6)))
FOUND = (0, (1, 4), (2, 5), (3, 6))


def ring_graph(count, more=0):
    edges = [(0, count - 1)] + [(node, node + 1) for node in range(count - 1)]
    return (count + more, tuple(sorted(edges)))


class TestRing(unittest.TestCase):
    def assert_ring(self, graph, there):
        found = ring(graph)
        if there:
            self.assertTrue(plain_ring_holds(graph, found), (graph, found))
            self.assertIs(ring_holds(graph, found), True, (graph, found))
            self.assertIs(type(found), tuple)
        else:
            self.assertIs(found, None, graph)

    def test_no_ring(self):
        for graph in ((1, ()), (8, ()), (2, ((0, 1),)), PATH3, SPIDER, read_graph("6: 0-1 2-3 4-5")):
            self.assertIs(ring(graph), None)

    def test_rings_of_three_up_to_all_nodes(self):
        for count in range(3, 9):
            graph = ring_graph(count)
            self.assertEqual(sorted(ring(graph)), list(range(count)))
            self.assert_ring(graph, True)
            for more in range(8 - count + 1):
                self.assert_ring(ring_graph(count, more), True)

    def test_a_ring_behind_a_tail(self):
        self.assert_ring(read_graph("8: 0-1 1-2 2-3 3-4 4-5 5-6 5-7 6-7"), True)
        self.assertEqual(sorted(ring(read_graph("8: 0-1 1-2 2-3 3-4 4-5 5-6 5-7 6-7"))), [5, 6, 7])
        self.assertEqual(sorted(ring(read_graph("8: 0-1 2-3 4-5 4-7 5-6 6-7"))), [4, 5, 6, 7])

    def test_small_graphs(self):
        for graph in every_small_graph(4):
            self.assert_ring(graph, has_ring(graph))

    def test_five_nodes(self):
        for graph in every_graph(5):
            self.assert_ring(graph, has_ring(graph))

    def test_larger_graphs(self):
        chance = random.Random(22)
        for _ in range(150):
            graph = some_graph(chance, chance.randint(6, 8))
            self.assert_ring(graph, has_ring(graph))
            self.assert_ring(some_tree(chance, 8), False)


class TestRingHolds(unittest.TestCase):
    def test_by_hand(self):
        self.assertIs(ring_holds(RING3, (0, 1, 2)), True)
        self.assertIs(ring_holds(RING3, (2, 1, 0)), True)
        self.assertIs(ring_holds(RING3, (1, 0, 2)), True)

    def test_too_few_nodes(self):
        for nodes in ((), (0,), (0, 1), (1, 0), (0, 0)):
            self.assertIs(ring_holds(RING3, nodes), False, nodes)
        self.assertIs(ring_holds((1, ()), (0,)), False)
        self.assertIs(ring_holds((2, ((0, 1),)), (0, 1)), False)

    def test_nodes_twice(self):
        for nodes in ((0, 1, 0), (0, 1, 2, 0), (0, 1, 2, 0, 1, 2), (0, 1, 0, 2), (0, 0, 1, 2), (0, 1, 0, 1)):
            self.assertIs(ring_holds(RING3, nodes), False, nodes)

    def test_closed_at_its_end(self):
        self.assertIs(ring_holds(PATH3, (0, 1, 2)), False)
        self.assertIs(ring_holds(PATH3, (1, 2, 0)), False)
        self.assertIs(ring_holds(PATH3, (2, 0, 1)), False)

    def test_a_missing_edge(self):
        for count in range(3, 9):
            edges = ring_graph(count)[1]
            nodes = tuple(range(count))
            self.assertIs(ring_holds((count, edges), nodes), True)
            for at in range(count):
                self.assertIs(ring_holds((count, edges[:at] + edges[at + 1:]), nodes), False)
                self.assertIs(ring_holds((count, edges), nodes[:at] + nodes[at + 1:]), False)

    def test_another_order(self):
        self.assertIs(ring_holds(ring_graph(4), (0, 1, 3, 2)), False)
        self.assertIs(ring_holds(ring_graph(4), (1, 2, 3, 0)), True)
        self.assertIs(ring_holds((4, tuple(every_pair(4))), (0, 1, 3, 2)), True)

    def test_all_tuples(self):
        for graph in every_small_graph(3):
            for many in range(5):
                for nodes in product(range(graph[0]), repeat=many):
                    self.assertIs(ring_holds(graph, nodes), plain_ring_holds(graph, nodes), (graph, nodes))

    def test_drawn_tuples(self):
        chance = random.Random(23)
        for _ in range(1500):
            graph = some_graph(chance, chance.randint(4, 8))
            nodes = tuple(chance.sample(range(graph[0]), chance.randint(3, graph[0])))
            self.assertIs(ring_holds(graph, nodes), plain_ring_holds(graph, nodes), (graph, nodes))


class TestSpider(unittest.TestCase):
    def assert_spider(self, graph):
        found = spider(graph)
        if has_spider(graph):
            self.assertTrue(plain_spider_holds(graph, found), (graph, found))
            self.assertIs(spider_holds(graph, found), True, (graph, found))
        else:
            self.assertIs(found, None, graph)
        return found

    def test_by_hand(self):
        self.assertEqual(spider(SPIDER)[0], 0)
        self.assertEqual(set(spider(SPIDER)[1:]), set(FOUND[1:]))
        self.assertEqual(len(spider(SPIDER)), 4)

    def test_none_in_small_graphs(self):
        for graph in every_small_graph(4):
            if not has_ring(graph):
                self.assertIs(spider(graph), None, graph)

    def test_none_where_a_leg_is_short(self):
        for edges in ("0-1 0-2 0-3 0-7 1-4 2-5 3-6", "0-1 0-2 0-3 1-4 2-5 3-6 3-7", "0-1 0-2 0-3 1-4 1-7 2-5 3-6"):
            self.assertIsNot(self.assert_spider(read_graph("8: " + edges)), None)
        for edges in ("0-1 0-2 0-3 0-4 0-5 0-6 0-7", "0-1 0-2 0-3 0-7 1-4 1-5 1-6", "0-1 0-2 0-3 1-4 2-5 5-6 6-7"):
            self.assertIs(self.assert_spider(read_graph("8: " + edges)), None)
        self.assertIs(spider((8, ((0, 1), (1, 2), (2, 3), (3, 4), (4, 5), (5, 6), (6, 7)))), None)
        self.assertIs(spider((8, ())), None)

    def test_any_numbers(self):
        chance = random.Random(7)
        for _ in range(30):
            graph = renumbered(SPIDER, some_order(chance, 7))
            self.assertIsNot(self.assert_spider(graph), None)
            graph = renumbered((8, SPIDER[1]), some_order(chance, 8))
            self.assertIsNot(self.assert_spider(graph), None)

    def test_drawn_trees(self):
        chance = random.Random(24)
        told = [self.assert_spider(some_tree(chance, chance.randint(6, 8))) is None for _ in range(60)]
        self.assertEqual(set(told), {True, False})


class TestSpiderHolds(unittest.TestCase):
    def test_by_hand(self):
        self.assertIs(spider_holds(SPIDER, FOUND), True)
        self.assertIs(spider_holds(SPIDER, (0, (3, 6), (1, 4), (2, 5))), True)

    def test_another_count_of_pairs(self):
        for many in range(4):
            self.assertIs(spider_holds(SPIDER, FOUND[:many + 1]), many == 3)
        self.assertIs(spider_holds(SPIDER, FOUND + FOUND[1:2]), False)
        graph = (9, tuple(sorted(SPIDER[1] + ((0, 7), (7, 8)))))
        self.assertIs(spider_holds(graph, FOUND + ((7, 8),)), False)
        self.assertIs(spider_holds(graph, FOUND), True)

    def test_nodes_twice(self):
        every = (7, tuple(every_pair(7)))
        self.assertIs(spider_holds(every, FOUND), True)
        for found in (
            (0, (1, 4), (2, 5), (3, 5)), (0, (1, 4), (2, 5), (2, 6)), (0, (1, 4), (2, 5), (3, 0)),
            (0, (1, 4), (2, 5), (3, 1)), (0, (1, 2), (2, 1), (3, 6)), (4, (1, 4), (2, 5), (3, 6)),
            (1, (1, 4), (2, 5), (3, 6)), (0, (1, 4), (1, 4), (1, 4)),
        ):
            self.assertIs(spider_holds(every, found), False, found)

    def test_a_missing_edge(self):
        for at in range(6):
            self.assertIs(spider_holds((7, SPIDER[1][:at] + SPIDER[1][at + 1:]), FOUND), False)

    def test_knee_and_foot_exchanged(self):
        for at in range(1, 4):
            knee, foot = FOUND[at]
            self.assertIs(spider_holds(SPIDER, FOUND[:at] + ((foot, knee),) + FOUND[at + 1:]), False)

    def test_other_edges_do_no_harm(self):
        self.assertIs(spider_holds((8, tuple(every_pair(8))), (7, (6, 5), (4, 3), (2, 1))), True)

    def test_drawn(self):
        chance = random.Random(25)
        told = set()
        for _ in range(3000):
            graph = some_graph(chance, 8)
            nodes = [chance.randrange(8) for _ in range(7)] if chance.random() < 0.3 else chance.sample(range(8), 7)
            found = (nodes[0], (nodes[1], nodes[2]), (nodes[3], nodes[4]), (nodes[5], nodes[6]))
            holds = spider_holds(graph, found)
            self.assertIs(holds, plain_spider_holds(graph, found), (graph, found))
            told.add(holds)
        self.assertEqual(told, {True, False})


class TestObstacle(unittest.TestCase):
    def assert_obstacle(self, graph):
        for runner in RUNNERS:
            for count in (1, 2):
                found = obstacle(graph, count, runner)
                where = (graph, count, runner, found)
                if count >= need(graph, runner):
                    self.assertIs(found, None, where)
                elif count == 1:
                    self.assertEqual(found[0], "edge", where)
                    self.assertIn(found[1], graph[1], where)
                elif has_ring(graph):
                    self.assertEqual(found[0], "ring", where)
                    self.assertTrue(plain_ring_holds(graph, found[1]), where)
                else:
                    self.assertEqual((found[0], runner), ("spider", "unseen"), where)
                    self.assertTrue(plain_spider_holds(graph, found[1]), where)
                if found is not None:
                    self.assertEqual((type(found), len(found)), (tuple, 2), where)

    def test_by_hand(self):
        for runner in RUNNERS:
            self.assertIs(obstacle((1, ()), 1, runner), None)
            self.assertIs(obstacle((8, ()), 2, runner), None)
            self.assertEqual(obstacle((3, ((0, 2),)), 1, runner), ("edge", (0, 2)))
            self.assertIs(obstacle((3, ((0, 2),)), 2, runner), None)
            self.assertEqual(obstacle(RING3, 2, runner)[0], "ring")
            self.assertEqual(obstacle(RING3, 1, runner)[0], "edge")
        self.assertIs(obstacle(SPIDER, 2, "seen"), None)
        self.assertIs(obstacle(SPIDER, 2, "lazy"), None)
        self.assertEqual(obstacle(SPIDER, 2, "unseen")[0], "spider")

    def test_a_ring_and_a_spider(self):
        graph = (7, tuple(sorted(SPIDER[1] + ((5, 6),))))
        for runner in RUNNERS:
            self.assertEqual(obstacle(graph, 2, runner)[0], "ring")
        self.assert_obstacle(graph)

    def test_small_graphs(self):
        for graph in [*every_small_graph(4), *every_graph(5)]:
            self.assert_obstacle(graph)

    def test_larger_graphs(self):
        chance = random.Random(26)
        for _ in range(80):
            self.assert_obstacle(some_graph(chance, chance.randint(6, 8)))
            self.assert_obstacle(some_tree(chance, chance.randint(6, 8)))


if __name__ == "__main__":
    unittest.main()
