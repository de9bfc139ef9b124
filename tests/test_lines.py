import random
import unittest

from havenorhunt.graphs import read_graph
from havenorhunt.lines import best_line, line_need, plan_of_line
from havenorhunt.plans import caught_at, gives_ground, possible_after, searchers_of
from tests.best import BestTests
from tests.plain import every_pair, every_small_graph, plain_possible, some_graph
from tests.plain_rooms import every_order, plain_line_need, plain_plan_of_line, some_order

PATH4 = (4, ((0, 1), (1, 2), (2, 3)))
STAR4 = (4, ((0, 1), (0, 2), (0, 3)))
SPIDER = (7, ((0, 1), (0, 2), (0, 3), (1, 4), (2, 5), (3, 6)))


class TestNeed(unittest.TestCase):
    def test_one_node(self):
        self.assertEqual(line_need((1, ()), (0,)), 1)

    def test_no_edge(self):
        for count in range(1, 9):
            self.assertEqual(line_need((count, ()), tuple(range(count))), 1)

    def test_all_edges(self):
        for count in range(1, 9):
            self.assertEqual(line_need((count, tuple(every_pair(count))), tuple(range(count))), count)

    def test_path(self):
        self.assertEqual(line_need(PATH4, (0, 1, 2, 3)), 2)
        self.assertEqual(line_need(PATH4, (1, 2, 0, 3)), 3)
        self.assertEqual(line_need(PATH4, (0, 2, 1, 3)), 3)
        self.assertEqual(line_need(PATH4, (0, 3, 1, 2)), 3)

    def test_star(self):
        self.assertEqual(line_need(STAR4, (0, 1, 2, 3)), 2)
        self.assertEqual(line_need(STAR4, (1, 2, 0, 3)), 3)
        self.assertEqual(line_need(STAR4, (1, 2, 3, 0)), 4)

    def test_the_last_node_is_in_no_border(self):
        # All three nodes in front of the last one are joined to it; no node stands in front of the first one.
        self.assertEqual(line_need(read_graph("4: 0-3 1-3 2-3"), (0, 1, 2, 3)), 4)
        self.assertEqual(line_need((2, ((0, 1),)), (1, 0)), 2)

    def test_every_line_of_small_graphs(self):
        for graph in every_small_graph(4):
            for line in every_order(graph[0]):
                self.assertEqual(line_need(graph, line), plain_line_need(graph, line), (graph, line))

    def test_larger_lines(self):
        chance = random.Random(17)
        for _ in range(800):
            graph = some_graph(chance, chance.randint(5, 9))
            line = some_order(chance, graph[0])
            self.assertEqual(line_need(graph, line), plain_line_need(graph, line), (graph, line))


class TestBest(BestTests, unittest.TestCase):
    best = staticmethod(best_line)
    need = staticmethod(line_need)
    plain_need = staticmethod(plain_line_need)

    def test_other_graphs_of_known_need(self):
        # The cube, and a spider, where the line needs more than an order.
        self.assert_need(read_graph("8: 0-1 0-2 0-4 1-3 1-5 2-3 2-6 3-7 4-5 4-6 5-7 6-7"), 5)
        self.assert_need(SPIDER, 3)


class TestPlan(unittest.TestCase):
    def assert_plan(self, graph, line):
        """The plan is as told, catches at its last standing and not before, and gives no ground."""
        where = (graph, line)
        plan = plan_of_line(graph, line)
        self.assertEqual(plan, plain_plan_of_line(graph, line), where)
        sets = plain_possible(graph, plan, "unseen")
        self.assertEqual([len(possible) for possible in sets], list(range(graph[0], -1, -1)), where)
        self.assertEqual(caught_at(graph, plan, "unseen"), graph[0] - 1, where)
        self.assertIs(gives_ground(graph, plan, "unseen"), False, where)
        self.assertEqual(searchers_of(plan), line_need(graph, line), where)

    def test_one_node(self):
        self.assertEqual(plan_of_line((1, ()), (0,)), ((0,),))

    def test_path(self):
        self.assertEqual(plan_of_line(PATH4, (0, 1, 2, 3)), ((0,), (0, 1), (1, 2), (2, 3)))
        self.assertEqual(plan_of_line(PATH4, (3, 2, 1, 0)), ((3,), (2, 3), (1, 2), (0, 1)))
        self.assertEqual(plan_of_line(PATH4, (1, 3, 0, 2)), ((1,), (1, 3), (0, 1, 3), (1, 2, 3)))

    def test_star(self):
        self.assertEqual(plan_of_line(STAR4, (2, 0, 3, 1)), ((2,), (0, 2), (0, 3), (0, 1)))
        self.assertEqual(plan_of_line(STAR4, (3, 2, 1, 0)), ((3,), (2, 3), (1, 2, 3), (0, 1, 2, 3)))

    def test_pieces(self):
        self.assertEqual(plan_of_line(read_graph("4: 0-1 2-3"), (0, 1, 2, 3)), ((0,), (0, 1), (2,), (2, 3)))
        self.assertEqual(plan_of_line((3, ()), (2, 0, 1)), ((2,), (0,), (1,)))

    def test_possible_nodes_are_those_behind_in_the_line(self):
        plan = plan_of_line(PATH4, (2, 1, 3, 0))
        self.assertEqual(possible_after(PATH4, plan, "unseen"), ((0, 1, 3), (0, 3), (0,), ()))

    def test_small_graphs(self):
        for graph in every_small_graph(4):
            for line in every_order(graph[0]):
                self.assert_plan(graph, line)

    def test_larger_graphs(self):
        chance = random.Random(7)
        for _ in range(200):
            graph = some_graph(chance, chance.randint(5, 8))
            self.assert_plan(graph, some_order(chance, graph[0]))
            self.assert_plan(graph, best_line(graph))


if __name__ == "__main__":
    unittest.main()
