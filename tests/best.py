"""What test_orders.py and test_lines.py ask alike of the best order and of the best line."""

import random

from havenorhunt.graphs import read_graph
from tests.plain import every_graph, every_pair, every_small_graph, some_graph
from tests.plain_rooms import every_order, some_order


class BestTests:
    """Tests for a TestCase that gives `best`, `need` and `plain_need` as static methods."""

    def assert_need(self, graph, least):
        found = self.best(graph)
        self.assertIs(type(found), tuple)
        self.assertEqual(sorted(found), list(range(graph[0])), graph)
        self.assertEqual(self.plain_need(graph, found), least, (graph, found))

    def test_one_node(self):
        self.assertEqual(self.best((1, ())), (0,))

    def test_small_graphs(self):
        for graph in every_small_graph(4):
            self.assert_need(graph, min(self.plain_need(graph, nodes) for nodes in every_order(graph[0])))

    def test_five_nodes(self):
        tried = every_order(5)
        for graph in every_graph(5):
            self.assert_need(graph, min(self.need(graph, nodes) for nodes in tried))

    def test_six_to_eight_nodes(self):
        for count in (6, 7, 8):
            path = tuple((node, node + 1) for node in range(count - 1))
            pairs = tuple(every_pair(count))
            self.assert_need((count, ()), 1)
            self.assert_need((count, path), 2)
            self.assert_need((count, tuple((0, leaf) for leaf in range(1, count))), 2)
            self.assert_need((count, tuple(sorted(path + ((0, count - 1),)))), 3)
            self.assert_need((count, pairs), count)
            self.assert_need((count, pairs[1:]), count - 1)
        # Two rows of four nodes; four nodes each joined to four others.
        self.assert_need(read_graph("8: 0-1 0-4 1-2 1-5 2-3 2-6 3-7 4-5 5-6 6-7"), 3)
        self.assert_need((8, tuple((one, two) for one in range(4) for two in range(4, 8))), 5)

    def test_none_that_is_drawn_needs_less(self):
        chance = random.Random(18)
        for _ in range(60):
            graph = some_graph(chance, chance.randint(6, 8))
            found = self.best(graph)
            self.assertEqual(sorted(found), list(range(graph[0])))
            drawn = [self.need(graph, some_order(chance, graph[0])) for _ in range(200)]
            self.assertLessEqual(self.need(graph, found), min(drawn), graph)

    def test_numbers_of_the_nodes_make_no_difference(self):
        chance = random.Random(6)
        for _ in range(60):
            graph = some_graph(chance, 8)
            new = some_order(chance, 8)
            edges = sorted(tuple(sorted((new[first], new[second]))) for first, second in graph[1])
            other = (8, tuple(edges))
            self.assertEqual(self.need(graph, self.best(graph)), self.need(other, self.best(other)), graph)

    def test_beyond_the_limit(self):
        self.assert_need((11, tuple((node, node + 1) for node in range(10))), 2)
