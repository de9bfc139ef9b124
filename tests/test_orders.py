import random
import unittest

from havenorhunt.graphs import read_graph
from havenorhunt.orders import best_order, order_need
from tests.plain import every_graph, every_pair, every_small_graph, some_graph
from tests.plain_rooms import every_order, plain_order_need, some_order

PATH3 = (3, ((0, 1), (1, 2)))


class TestNeed(unittest.TestCase):
    def test_one_node(self):
        self.assertEqual(order_need((1, ()), (0,)), 1)

    def test_no_edge(self):
        for count in range(1, 9):
            self.assertEqual(order_need((count, ()), tuple(range(count))), 1)

    def test_all_edges(self):
        for count in range(1, 9):
            graph = (count, tuple(every_pair(count)))
            self.assertEqual(order_need(graph, tuple(range(count))), count)
            self.assertEqual(order_need(graph, tuple(range(count))[::-1]), count)

    def test_an_edge(self):
        self.assertEqual(order_need((2, ((0, 1),)), (0, 1)), 2)
        self.assertEqual(order_need((2, ((0, 1),)), (1, 0)), 2)

    def test_joined_to_nodes_behind(self):
        # Nothing stands in front of node 0, which is joined to all others.
        star = read_graph("4: 0-1 0-2 0-3")
        self.assertEqual(order_need(star, (0, 1, 2, 3)), 4)
        self.assertEqual(order_need(star, (1, 0, 2, 3)), 3)
        self.assertEqual(order_need(star, (1, 2, 0, 3)), 2)
        self.assertEqual(order_need(star, (1, 2, 3, 0)), 2)

    def test_reached_over_nodes_in_front(self):
        self.assertEqual(order_need(PATH3, (0, 1, 2)), 2)
        self.assertEqual(order_need(PATH3, (1, 0, 2)), 3)
        # Node 0 is not joined to 4; between them stand, all in front of both, 1, 2 and 3. Node 0
        # is joined to 5 and 6 too.
        graph = read_graph("7: 0-1 0-5 0-6 1-2 2-3 3-4")
        self.assertEqual(order_need(graph, (1, 2, 3, 0, 4, 5, 6)), 4)
        self.assertEqual(order_need(graph, (3, 1, 2, 0, 6, 5, 4)), 4)

    def test_the_way_goes_over_a_node_behind(self):
        # The ways from 0 to 4 go over 2, and this stands behind 0.
        graph = read_graph("7: 0-1 0-5 0-6 1-2 2-3 3-4")
        self.assertEqual(order_need(graph, (1, 3, 0, 2, 4, 5, 6)), 4)
        self.assertEqual(order_need(graph, (1, 3, 5, 6, 0, 2, 4)), 3)
        self.assertEqual(order_need(read_graph("5: 0-1 1-2 2-3 3-4"), (1, 3, 0, 2, 4)), 3)
        self.assertEqual(order_need(read_graph("5: 0-1 1-2 2-3 3-4"), (0, 4, 1, 3, 2)), 2)

    def test_a_node_in_front_is_not_beyond(self):
        self.assertEqual(order_need(read_graph("4: 0-1 0-2 0-3"), (3, 2, 1, 0)), 2)

    def test_pieces(self):
        graph = read_graph("5: 0-1 2-3 2-4 3-4")
        self.assertEqual(order_need(graph, (0, 1, 2, 3, 4)), 3)
        self.assertEqual(order_need(graph, (3, 0, 2, 1, 4)), 3)
        self.assertEqual(order_need(read_graph("4: 0-2 1-3"), (0, 1, 2, 3)), 2)

    def test_every_order_of_small_graphs(self):
        for graph in every_small_graph(4):
            for order in every_order(graph[0]):
                self.assertEqual(order_need(graph, order), plain_order_need(graph, order), (graph, order))

    def test_larger_orders(self):
        chance = random.Random(13)
        for _ in range(800):
            graph = some_graph(chance, chance.randint(5, 9))
            order = some_order(chance, graph[0])
            self.assertEqual(order_need(graph, order), plain_order_need(graph, order), (graph, order))


class TestBest(unittest.TestCase):
    def assert_need(self, graph, least):
        order = best_order(graph)
        self.assertIs(type(order), tuple)
        self.assertEqual(sorted(order), list(range(graph[0])), graph)
        self.assertEqual(plain_order_need(graph, order), least, (graph, order))

    def test_one_node(self):
        self.assertEqual(best_order((1, ())), (0,))

    def test_small_graphs(self):
        for graph in every_small_graph(4):
            self.assert_need(graph, min(plain_order_need(graph, order) for order in every_order(graph[0])))

    def test_five_nodes(self):
        orders = every_order(5)
        for graph in every_graph(5):
            self.assert_need(graph, min(order_need(graph, order) for order in orders))

    def test_larger_graphs_of_known_need(self):
        for count in (6, 7, 8):
            path = tuple((node, node + 1) for node in range(count - 1))
            pairs = tuple(every_pair(count))
            self.assert_need((count, ()), 1)
            self.assert_need((count, path), 2)
            self.assert_need((count, tuple(sorted(path + ((0, count - 1),)))), 3)
            self.assert_need((count, pairs), count)
            self.assert_need((count, pairs[1:]), count - 1)
            self.assert_need((count, tuple(pair for pair in pairs if pair not in path)), count - 2)
        # The cube, two rows of four nodes, four nodes each joined to four others.
        self.assert_need(read_graph("8: 0-1 0-2 0-4 1-3 1-5 2-3 2-6 3-7 4-5 4-6 5-7 6-7"), 4)
        self.assert_need(read_graph("8: 0-1 0-4 1-2 1-5 2-3 2-6 3-7 4-5 5-6 6-7"), 3)
        self.assert_need((8, tuple((one, two) for one in range(4) for two in range(4, 8))), 5)

    def test_no_drawn_order_needs_less(self):
        chance = random.Random(18)
        for _ in range(60):
            graph = some_graph(chance, chance.randint(6, 8))
            order = best_order(graph)
            self.assertEqual(sorted(order), list(range(graph[0])))
            drawn = [order_need(graph, some_order(chance, graph[0])) for _ in range(200)]
            self.assertLessEqual(order_need(graph, order), min(drawn), graph)

    def test_numbers_of_the_nodes_make_no_difference(self):
        chance = random.Random(6)
        for _ in range(60):
            graph = some_graph(chance, 8)
            new = some_order(chance, 8)
            edges = sorted(tuple(sorted((new[first], new[second]))) for first, second in graph[1])
            other = (8, tuple(edges))
            self.assertEqual(order_need(graph, best_order(graph)), order_need(other, best_order(other)), graph)

    def test_beyond_the_limit(self):
        path = (11, tuple((node, node + 1) for node in range(10)))
        self.assert_need(path, 2)


if __name__ == "__main__":
    unittest.main()
