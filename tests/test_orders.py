import random
import unittest

from havenorhunt.graphs import read_graph
from havenorhunt.orders import best_order, order_need
from tests.best import BestTests
from tests.plain import every_pair, every_small_graph, some_graph
from tests.plain_rooms import every_order, plain_order_need, some_order

PATH3 = (3, ((0, 1), (1, 2)))


class TestNeed(unittest.TestCase):
    def test_one_node(self):
        self.assertEqual(order_need((1, ()), (0,)), 1)

    def test_no_edge(self):
        for count in range(1, 9):
            self.assertEqual(order_need((count, ()), tuple(range(count))), 1)

    def test_all_edges(self):
        for count in range(1, 9):
            graph = (count, tuple(every_pair(count)))
            self.assertEqual(order_need(graph, tuple(range(count))), count)
            self.assertEqual(order_need(graph, tuple(range(count))[::-1]), count)

    def test_an_edge(self):
        self.assertEqual(order_need((2, ((0, 1),)), (0, 1)), 2)
        self.assertEqual(order_need((2, ((0, 1),)), (1, 0)), 2)

    def test_joined_to_nodes_behind(self):
        # Nothing stands in front of node 0, which is joined to all others.
        star = read_graph("4: 0-1 0-2 0-3")
        self.assertEqual(order_need(star, (0, 1, 2, 3)), 4)
        self.assertEqual(order_need(star, (1, 0, 2, 3)), 3)
        self.assertEqual(order_need(star, (1, 2, 0, 3)), 2)
        self.assertEqual(order_need(star, (1, 2, 3, 0)), 2)

    def test_reached_over_nodes_in_front(self):
        self.assertEqual(order_need(PATH3, (0, 1, 2)), 2)
        self.assertEqual(order_need(PATH3, (1, 0, 2)), 3)
        # Node 0 is not joined to 4; between them stand, all in front of both, 1, 2 and 3. Node 0
        # is joined to 5 and 6 too.
        graph = read_graph("7: 0-1 0-5 0-6 1-2 2-3 3-4")
        self.assertEqual(order_need(graph, (1, 2, 3, 0, 4, 5, 6)), 4)
        self.assertEqual(order_need(graph, (3, 1, 2, 0, 6, 5, 4)), 4)

    def test_the_way_goes_over_a_node_behind(self):
        # The ways from 0 to 4 go over 2, and this stands behind 0.
        graph = read_graph("7: 0-1 0-5 0-6 1-2 2-3 3-4")
        self.assertEqual(order_need(graph, (1, 3, 0, 2, 4, 5, 6)), 4)
        self.assertEqual(order_need(graph, (1, 3, 5, 6, 0, 2, 4)), 3)
        self.assertEqual(order_need(read_graph("5: 0-1 1-2 2-3 3-4"), (1, 3, 0, 2, 4)), 3)
        self.assertEqual(order_need(read_graph("5: 0-1 1-2 2-3 3-4"), (0, 4, 1, 3, 2)), 2)

    def test_a_node_in_front_is_not_beyond(self):
        self.assertEqual(order_need(read_graph("4: 0-1 0-2 0-3"), (3, 2, 1, 0)), 2)

    def test_pieces(self):
        graph = read_graph("5: 0-1 2-3 2-4 3-4")
        self.assertEqual(order_need(graph, (0, 1, 2, 3, 4)), 3)
        self.assertEqual(order_need(graph, (3, 0, 2, 1, 4)), 3)
        self.assertEqual(order_need(read_graph("4: 0-2 1-3"), (0, 1, 2, 3)), 2)

    def test_every_order_of_small_graphs(self):
        for graph in every_small_graph(4):
            for order in every_order(graph[0]):
                self.assertEqual(order_need(graph, order), plain_order_need(graph, order), (graph, order))

    def test_larger_orders(self):
        chance = random.Random(13)
        for _ in range(800):
            graph = some_graph(chance, chance.randint(5, 9))
            order = some_order(chance, graph[0])
            self.assertEqual(order_need(graph, order), plain_order_need(graph, order), (graph, order))


class TestBest(BestTests, unittest.TestCase):
    best = staticmethod(best_order)
    need = staticmethod(order_need)
    plain_need = staticmethod(plain_order_need)

    def test_other_graphs_of_known_need(self):
        # The cube, and a spider, where the order needs less than a line.
        self.assert_need(read_graph("8: 0-1 0-2 0-4 1-3 1-5 2-3 2-6 3-7 4-5 4-6 5-7 6-7"), 4)
        self.assert_need(read_graph("7: 0-1 0-2 0-3 1-4 2-5 3-6"), 2)
        for count in (6, 7, 8):
            others = tuple(pair for pair in every_pair(count) if pair[0] + 1 != pair[1])
            self.assert_need((count, others), count - 2)


if __name__ == "__main__":
    unittest.main()
