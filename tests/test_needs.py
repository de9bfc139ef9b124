import random
import unittest

from havenorhunt.blockades import blockade_holds
from havenorhunt.errors import NoCatch
from havenorhunt.graphs import read_graph
from havenorhunt.havens import haven_holds
from havenorhunt.lines import plan_of_line
from havenorhunt.needs import best_plan, decide, need, straighten
from havenorhunt.plans import hunt_holds, searchers_of
from tests.plain import every_pair, every_small_graph, some_graph, some_set
from tests.plain_papers import (
    HIDDEN, RUNNERS, depth_of, is_caught, least_need, plain_best_holds, plain_blockade_holds, plain_caught,
    plain_gives_ground, plain_haven_holds, shapes, small_shapes,
)
from tests.plain_rooms import plain_line_need, plain_order_need, some_order

EDGE = (2, ((0, 1),))
PATH3 = (3, ((0, 1), (1, 2)))
PATH4 = (4, ((0, 1), (1, 2), (2, 3)))
STAR4 = (4, ((0, 1), (0, 2), (0, 3)))
SPIDER = (7, ((0, 1), (0, 2), (0, 3), (1, 4), (2, 5), (3, 6)))
CUBE = read_graph("8: 0-1 0-2 0-4 1-3 1-5 2-3 2-6 3-7 4-5 4-6 5-7 6-7")
SIDES = (8, tuple((one, two) for one in range(4) for two in range(4, 8)))
TWO_ROWS = read_graph("8: 0-1 0-4 1-2 1-5 2-3 2-6 3-7 4-5 5-6 6-7")

# Graphs with the needs of the seen and the lazy runner, and of the unseen one.
NAMED = (
    ((1, ()), 1, 1), ((8, ()), 1, 1), (EDGE, 2, 2), (PATH4, 2, 2), (STAR4, 2, 2), (SPIDER, 2, 3), (CUBE, 4, 5),
    (SIDES, 5, 5), (TWO_ROWS, 3, 3), ((8, tuple(every_pair(8))), 8, 8), ((7, tuple(every_pair(7))[1:]), 6, 6),
    (read_graph("6: 0-1 0-2 1-2 3-4"), 3, 3),
)


class TestNeed(unittest.TestCase):
    def test_by_name(self):
        for graph, seen, unseen in NAMED:
            self.assertEqual(need(graph, "seen"), seen, graph)
            self.assertEqual(need(graph, "lazy"), seen, graph)
            self.assertEqual(need(graph, "unseen"), unseen, graph)

    def test_small_graphs(self):
        for graph in [*every_small_graph(4), *shapes(5)]:
            for runner in RUNNERS:
                self.assertEqual(need(graph, runner), least_need(graph, runner), (graph, runner))

    def test_least_count_with_which_the_searchers_win(self):
        for graph in small_shapes(4):
            for runner in RUNNERS:
                for count in range(graph[0] + 1):
                    enough = is_caught(graph, count, runner)
                    self.assertIs(enough, count >= need(graph, runner), (graph, count, runner))

    def test_drawn_orders_and_lines_need_no_less(self):
        chance = random.Random(18)
        for _ in range(30):
            graph = some_graph(chance, chance.randint(6, 8))
            seen, unseen, lazy = need(graph, "seen"), need(graph, "unseen"), need(graph, "lazy")
            for _ in range(40):
                order = some_order(chance, graph[0])
                self.assertLessEqual(seen, plain_order_need(graph, order), (graph, order))
                self.assertLessEqual(lazy, plain_order_need(graph, order), (graph, order))
                self.assertLessEqual(unseen, plain_line_need(graph, order), (graph, order))


class TestBestPlan(unittest.TestCase):
    def assert_best(self, graph, runner):
        plan = best_plan(graph, runner)
        self.assertTrue(plain_best_holds(graph, need(graph, runner), runner, plan), (graph, runner, plan))
        if runner == "seen":
            self.assertIs(hunt_holds(graph, need(graph, runner), plan), True, (graph, plan))
            self.assertLessEqual(depth_of(plan), 20, (graph, plan))
        else:
            self.assertLessEqual(len(plan), 40, (graph, runner, plan))

    def test_one_node(self):
        self.assertEqual(best_plan((1, ()), "unseen"), ((0,),))
        self.assertEqual(best_plan((1, ()), "seen"), (((0,), ((0,), ())),))
        self.assert_best((1, ()), "lazy")

    def test_small_graphs(self):
        for graph in every_small_graph(4):
            for runner in RUNNERS:
                self.assert_best(graph, runner)

    def test_by_name(self):
        for graph, _, _ in NAMED:
            for runner in RUNNERS:
                self.assert_best(graph, runner)

    def test_larger_graphs(self):
        chance = random.Random(16)
        for _ in range(80):
            graph = some_graph(chance, chance.randint(5, 8))
            for runner in RUNNERS:
                self.assert_best(graph, runner)


class TestDecide(unittest.TestCase):
    def assert_decided(self, graph, count, runner):
        word, told = decide(graph, count, runner)
        where = (graph, count, runner)
        if count >= need(graph, runner):
            self.assertEqual((word, told), ("caught", best_plan(graph, runner)), where)
            self.assertTrue(plain_best_holds(graph, count, runner, told), where)
        else:
            self.assertEqual(word, "free", where)
            if runner == "seen":
                self.assertIs(haven_holds(graph, count, told), True, where)
            else:
                self.assertIs(blockade_holds(graph, count, runner, told), True, where)
        return told

    def test_one_node(self):
        for runner in RUNNERS:
            self.assertEqual(decide((1, ()), 0, runner), ("free", (((), (0,)),)))
            self.assertEqual(decide((1, ()), 1, runner), ("caught", best_plan((1, ()), runner)))

    def test_the_unseen_runner_alone_is_free(self):
        self.assertEqual(decide(SPIDER, 2, "seen")[0], "caught")
        self.assertEqual(decide(SPIDER, 2, "lazy")[0], "caught")
        self.assertEqual(decide(SPIDER, 2, "unseen")[0], "free")

    def test_small_graphs(self):
        for graph in every_small_graph(4):
            for runner in RUNNERS:
                for count in range(graph[0] + 3):
                    told = self.assert_decided(graph, count, runner)
                    if count < need(graph, runner) and runner == "seen":
                        self.assertTrue(plain_haven_holds(graph, count, told), (graph, count))
                    elif count < need(graph, runner):
                        self.assertTrue(plain_blockade_holds(graph, count, runner, told), (graph, count, runner))

    def test_larger_graphs(self):
        chance = random.Random(21)
        for graph in [some_graph(chance, chance.randint(5, 8)) for _ in range(12)] + [CUBE, SIDES, TWO_ROWS]:
            for runner in RUNNERS:
                for count in range(10):
                    self.assert_decided(graph, count, runner)


def long_plan(chance, graph, runner, standings):
    """A plan that catches and gives ground, with so many standings, or None if none was drawn."""
    line = some_order(chance, graph[0])
    best = plan_of_line(graph, line)
    most = searchers_of(best)
    wild = tuple(some_set(chance, graph[0], most) for _ in range(standings - len(best)))
    plan = wild + best
    return plan if plain_caught(graph, plan, runner) and plain_gives_ground(graph, plan, runner) else None


class TestStraighten(unittest.TestCase):
    def assert_straight(self, graph, plan, runner):
        found = straighten(graph, plan, runner)
        self.assertTrue(plain_best_holds(graph, searchers_of(plan), runner, found), (graph, plan, runner, found))
        self.assertLessEqual(len(found), 40)

    def test_plans_that_give_ground(self):
        for runner in HIDDEN:
            plan = ((0,), (1,), (0, 1), (1, 2))
            self.assertTrue(plain_gives_ground(PATH3, plan, runner))
            self.assertTrue(plain_caught(PATH3, plan, runner))
            self.assert_straight(PATH3, plan, runner)

    def test_plans_that_give_none(self):
        for runner in HIDDEN:
            self.assert_straight(PATH3, ((0, 1), (1, 2)), runner)
            self.assert_straight(PATH3, ((0, 1, 2),), runner)
            self.assert_straight((1, ()), ((0,),), runner)

    def test_plans_that_go_on_behind_the_catch(self):
        for runner in HIDDEN:
            self.assert_straight(PATH3, ((0, 1), (1, 2), (), (0,)), runner)
            self.assert_straight(PATH3, ((0, 1), (1, 2), (0, 1, 2)), runner)
            self.assert_straight(PATH3, ((0,), (1,), (0, 1), (1, 2), (2,), (0,), ()), runner)

    def test_plans_that_do_not_catch(self):
        for runner in HIDDEN:
            for plan in ((), ((),), ((0, 1),), ((0,), (1,), (2,)), ((0, 1), (), (1, 2)), ((0, 1), ()) * 50):
                self.assertRaises(NoCatch, straighten, PATH3, plan, runner)
            self.assertRaises(NoCatch, straighten, (1, ()), (), runner)

    def test_a_plan_for_the_lazy_runner_alone(self):
        plan = ((0, 1), (), (0,), (0, 2), (0, 3))
        self.assert_straight(STAR4, plan, "lazy")
        self.assertRaises(NoCatch, straighten, STAR4, plan, "unseen")

    def test_drawn_long_plans(self):
        chance = random.Random(9)
        many = {runner: 0 for runner in HIDDEN}
        for _ in range(120):
            graph = some_graph(chance, chance.randint(3, 8))
            for runner in HIDDEN:
                plan = long_plan(chance, graph, runner, chance.randint(20, 100))
                if plan is not None:
                    many[runner] += 1
                    self.assert_straight(graph, plan, runner)
        self.assertGreater(min(many.values()), 50)

    def test_drawn_short_plans(self):
        chance = random.Random(10)
        told = {(runner, caught): 0 for runner in HIDDEN for caught in (True, False)}
        for _ in range(1500):
            graph = some_graph(chance, chance.randint(2, 4))
            plan = tuple(some_set(chance, graph[0], chance.randint(1, 3)) for _ in range(chance.randint(0, 8)))
            for runner in HIDDEN:
                caught = plain_caught(graph, plan, runner)
                told[runner, caught] += 1
                if caught:
                    self.assert_straight(graph, plan, runner)
                else:
                    self.assertRaises(NoCatch, straighten, graph, plan, runner)
        self.assertGreater(min(told.values()), 100)


if __name__ == "__main__":
    unittest.main()
