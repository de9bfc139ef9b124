import random
import unittest

from havenorhunt.graphs import read_graph
from havenorhunt.orders import best_order, order_need
from havenorhunt.plans import caught_at, gives_ground, hunt_holds, searchers_of
from havenorhunt.rooms import hunt_of, plan_of, rooms_hold, rooms_of
from tests.plain import (
    every_pair, every_set, every_small_graph, most_searchers, plain_hunt_holds, plain_possible, some_graph, some_set,
)
from tests.plain_rooms import (
    every_order, most_nodes, plain_hunt_of, plain_plan_of, plain_rooms_hold, plain_rooms_of, some_order, some_rooms,
)

PATH3 = (3, ((0, 1), (1, 2)))
PATH4 = (4, ((0, 1), (1, 2), (2, 3)))
STAR4 = (4, ((0, 1), (0, 2), (0, 3)))
TWO_EDGES = (4, ((0, 1), (2, 3)))
ROOMS4 = (((0, 1), -1), ((1, 2), 0), ((2, 3), 1))


class TestRoomsOf(unittest.TestCase):
    def test_example_of_the_document(self):
        self.assertEqual(rooms_of(PATH3, (0, 1, 2)), (((2,), -1), ((1, 2), 0), ((0, 1), 1)))

    def test_one_node(self):
        self.assertEqual(rooms_of((1, ()), (0,)), (((0,), -1),))

    def test_the_last_nodes_room_is_first(self):
        self.assertEqual(rooms_of(PATH3, (2, 1, 0)), (((0,), -1), ((0, 1), 0), ((1, 2), 1)))
        self.assertEqual(rooms_of(PATH3, (1, 0, 2)), (((2,), -1), ((0, 2), 0), ((0, 1, 2), 1)))
        self.assertEqual(rooms_of(PATH3, (0, 2, 1)), (((1,), -1), ((1, 2), 0), ((0, 1), 0)))

    def test_the_room_above_stands_farthest_behind(self):
        # Beyond 0 are 1, 2 and 3, whose rooms stand at 2, 0 and 1.
        rooms = (((2,), -1), ((2, 3), 0), ((1, 2, 3), 1), ((0, 1, 2, 3), 2))
        self.assertEqual(rooms_of(STAR4, (0, 1, 3, 2)), rooms)
        # Beyond 3 is 0, with the room at 2; beyond 4 is 1, with the first room.
        graph = read_graph("5: 0-1 0-2 0-3 1-4")
        rooms = (((1,), -1), ((1, 2), 0), ((0, 1, 2), 1), ((1, 4), 0), ((0, 3), 2))
        self.assertEqual(rooms_of(graph, (3, 4, 0, 2, 1)), rooms)

    def test_no_node_beyond(self):
        self.assertEqual(rooms_of((3, ()), (0, 2, 1)), (((1,), -1), ((2,), 0), ((0,), 0)))
        self.assertEqual(rooms_of(TWO_EDGES, (0, 1, 2, 3)), (((3,), -1), ((2, 3), 0), ((1,), 0), ((0, 1), 2)))
        self.assertEqual(rooms_of(TWO_EDGES, (0, 2, 1, 3)), (((3,), -1), ((1,), 0), ((2, 3), 0), ((0, 1), 1)))

    def assert_rooms(self, graph, order):
        rooms = rooms_of(graph, order)
        self.assertEqual(rooms, plain_rooms_of(graph, order), (graph, order))
        need = order_need(graph, order)
        self.assertTrue(plain_rooms_hold(graph, need, rooms), (graph, order))
        self.assertIs(rooms_hold(graph, need, rooms), True, (graph, order))
        self.assertEqual(most_nodes(rooms), need, (graph, order))
        self.assertIs(rooms_hold(graph, need - 1, rooms), False, (graph, order))

    def test_every_order_of_small_graphs(self):
        for graph in every_small_graph(4):
            for order in every_order(graph[0]):
                self.assert_rooms(graph, order)

    def test_larger_graphs(self):
        chance = random.Random(15)
        for _ in range(300):
            graph = some_graph(chance, chance.randint(5, 9))
            self.assert_rooms(graph, some_order(chance, graph[0]))


class TestRoomsHold(unittest.TestCase):
    def test_rooms_that_hold(self):
        self.assertIs(rooms_hold((1, ()), 1, (((0,), -1),)), True)
        self.assertIs(rooms_hold(PATH4, 2, ROOMS4), True)
        self.assertIs(rooms_hold(PATH4, 8, ROOMS4), True)
        self.assertIs(rooms_hold(PATH4, 2, (((1, 2), -1), ((0, 1), 0), ((2, 3), 0))), True)

    def test_all_nodes_in_one_room(self):
        for graph in every_small_graph(4):
            nodes = tuple(range(graph[0]))
            self.assertIs(rooms_hold(graph, graph[0], ((nodes, -1),)), True)
            self.assertIs(rooms_hold(graph, graph[0] - 1, ((nodes, -1),)), False)

    def test_a_room_twice_below_one_another(self):
        self.assertIs(rooms_hold(PATH4, 2, (((0, 1), -1), ((0, 1), 0), ((1, 2), 1), ((2, 3), 2))), True)
        self.assertIs(rooms_hold(PATH4, 2, (((0, 1), -1), ((1, 2), 0), ((2, 3), 1), ((2, 3), 2))), True)
        # The second one right below is as good if it has only what the room above has, too.
        self.assertIs(rooms_hold(PATH4, 2, ROOMS4 + (((0, 1), 0),)), True)
        self.assertIs(rooms_hold(PATH4, 2, ROOMS4 + (((1,), 0), ((1,), 0), ((1,), 4))), True)

    def test_an_empty_room(self):
        self.assertIs(rooms_hold(PATH4, 2, ROOMS4 + (((), 2),)), True)
        self.assertIs(rooms_hold(PATH4, 2, (((), -1), ((0, 1), 0), ((1, 2), 1), ((2, 3), 2))), True)
        self.assertIs(rooms_hold(TWO_EDGES, 2, (((0, 1), -1), ((), 0), ((2, 3), 1))), True)
        self.assertIs(rooms_hold(PATH4, 2, (((0, 1), -1), ((1, 2), 0), ((), 1), ((2, 3), 2))), False)

    def test_rooms_put_together(self):
        self.assertIs(rooms_hold(PATH4, 3, (((0, 1, 2), -1), ((2, 3), 0))), True)
        self.assertIs(rooms_hold(PATH4, 2, (((0, 1, 2), -1), ((2, 3), 0))), False)

    def test_no_pairs(self):
        for count in range(9):
            self.assertIs(rooms_hold((1, ()), count, ()), False)
            self.assertIs(rooms_hold(PATH4, count, ()), False)

    def test_a_room_greater_than_the_count(self):
        for count in range(9):
            self.assertIs(rooms_hold(PATH4, count, ROOMS4), count >= 2)
            self.assertIs(rooms_hold(PATH4, count, (((0, 1), -1), ((1, 2), 0), ((1, 2, 3), 1))), count >= 3)
            self.assertIs(rooms_hold(PATH4, count, (((0, 1, 2), -1), ((2, 3), 0))), count >= 3)

    def test_a_node_in_no_room(self):
        self.assertIs(rooms_hold((2, ()), 2, (((0,), -1),)), False)
        self.assertIs(rooms_hold((2, ()), 2, (((1,), -1),)), False)
        self.assertIs(rooms_hold((1, ()), 2, (((), -1),)), False)
        self.assertIs(rooms_hold((3, ((0, 1),)), 2, (((0, 1), -1), ((1,), 0))), False)

    def test_an_edge_in_no_room(self):
        self.assertIs(rooms_hold(PATH4, 2, (((0, 1), -1), ((1, 2), 0), ((3,), 1))), False)
        self.assertIs(rooms_hold((2, ((0, 1),)), 2, (((0,), -1), ((1,), 0))), False)
        self.assertIs(rooms_hold((3, ((0, 1), (0, 2), (1, 2))), 2, (((0, 1), -1), ((1, 2), 0))), False)

    def test_a_node_in_rooms_that_are_not_connected(self):
        self.assertIs(rooms_hold(PATH4, 2, (((0, 1), -1), ((2, 3), 0), ((1, 2), 0))), False)
        self.assertIs(rooms_hold(PATH4, 2, (((0, 1), -1), ((1, 2), 0), ((2, 3), 0))), False)
        self.assertIs(rooms_hold(PATH4, 2, ROOMS4 + (((0,), 2),)), False)
        self.assertIs(rooms_hold(PATH4, 2, ROOMS4 + (((0,), 1),)), False)
        self.assertIs(rooms_hold((1, ()), 1, (((), -1), ((0,), 0), ((0,), 0))), False)
        self.assertIs(rooms_hold((1, ()), 1, (((0,), -1), ((), 0), ((0,), 1))), False)

    def test_an_index_that_is_no_earlier_pair(self):
        for at, fits in ((1, (0,)), (2, (1,))):
            for index in (-100, -3, -2, -1, 0, 1, 2, 3, 4, 100):
                rooms = ROOMS4[:at] + ((ROOMS4[at][0], index),) + ROOMS4[at + 1:]
                self.assertIs(rooms_hold(PATH4, 2, rooms), index in fits, rooms)

    def test_an_index_that_would_fit_if_it_were_taken(self):
        # All rooms are the same, so that only the indexes count.
        for index in (-4, -3, -2, -1, 0, 1, 2, 3, 4, 100):
            self.assertIs(rooms_hold((1, ()), 1, (((0,), -1), ((0,), 0), ((0,), index))), index in (0, 1))
            self.assertIs(rooms_hold((1, ()), 1, (((0,), -1), ((0,), index), ((0,), 0))), index == 0)
            self.assertIs(rooms_hold((1, ()), 1, (((0,), index), ((0,), 0), ((0,), 0))), index == -1)
            self.assertIs(rooms_hold((1, ()), 1, (((0,), index),)), index == -1)

    def test_below_an_empty_room_only_the_indexes_count(self):
        for index in (-3, -2, -1, 0, 1, 2, 3):
            rooms = (((0,), -1), ((), index), ((), 0))
            self.assertIs(rooms_hold((1, ()), 1, rooms), index == 0)
            self.assertIs(rooms_hold((1, ()), 1, (((0,), -1), ((), 0), ((), index))), index in (0, 1))

    def test_drawn_rooms_that_hold(self):
        chance = random.Random(14)
        for _ in range(400):
            graph = some_graph(chance, chance.randint(1, 8))
            rooms = some_rooms(chance, graph, chance.randint(0, 8))
            most = most_nodes(rooms)
            self.assertTrue(plain_rooms_hold(graph, most, rooms), (graph, rooms))
            self.assertIs(rooms_hold(graph, most, rooms), True, (graph, rooms))
            self.assertIs(rooms_hold(graph, most - 1, rooms), False, (graph, rooms))

    def test_spoilt_rooms(self):
        chance = random.Random(41)
        told = []
        for _ in range(1500):
            graph = some_graph(chance, chance.randint(1, 6))
            rooms = list(some_rooms(chance, graph, chance.randint(0, 4)))
            at = chance.randrange(len(rooms))
            room, above = rooms[at]
            kind = chance.randrange(4)
            if kind == 0:
                rooms[at] = (some_set(chance, graph[0], graph[0]), above)
            elif kind == 1:
                rooms[at] = (room, chance.randint(-3, len(rooms) + 1))
            elif kind == 2:
                del rooms[at]
            else:
                rooms.insert(at, (room, chance.randint(-1, at)))
            found = rooms_hold(graph, 6, tuple(rooms))
            self.assertIs(found, plain_rooms_hold(graph, 6, tuple(rooms)), (graph, rooms))
            told.append((kind, found))
        for kind in range(4):
            self.assertTrue((kind, True) in told and (kind, False) in told)

    def test_every_pair_of_rooms(self):
        for graph in every_small_graph(3):
            for first in every_set(graph[0]):
                for second in every_set(graph[0]):
                    rooms = ((first, -1), (second, 0))
                    self.assertIs(rooms_hold(graph, 2, rooms), plain_rooms_hold(graph, 2, rooms), (graph, rooms))

    def test_more_rooms_than_the_limit(self):
        rooms = (((0,), -1),) + tuple(((0,), at) for at in range(60))
        self.assertIs(rooms_hold((1, ()), 1, rooms), True)
        self.assertIs(rooms_hold((1, ()), 1, rooms + (((0,), 61),)), False)


class TestHuntOf(unittest.TestCase):
    def test_one_node(self):
        self.assertEqual(hunt_of((1, ()), (((0,), -1),)), (((0,), ((0,), ())),))

    def test_along_a_path(self):
        last = (((3,), ((2, 3), ())),)
        below = (((2, 3), ((1, 2), last)),)
        self.assertEqual(hunt_of(PATH4, ROOMS4), (((0, 1, 2, 3), ((0, 1), below)),))

    def test_both_sides_of_the_first_room(self):
        rooms = (((1, 2), -1), ((2, 3), 0), ((0, 1), 0))
        below = (((0,), ((0, 1), ())), ((3,), ((2, 3), ())))
        self.assertEqual(hunt_of(PATH4, rooms), (((0, 1, 2, 3), ((1, 2), below)),))

    def test_several_pieces(self):
        rooms = (((3,), -1), ((2, 3), 0), ((1,), 0), ((0, 1), 2))
        first = ((0, 1), ((3,), (((0, 1), ((1,), (((0,), ((0, 1), ())),))),)))
        second = ((2, 3), ((3,), (((2,), ((2, 3), ())),)))
        self.assertEqual(hunt_of(TWO_EDGES, rooms), (first, second))

    def test_double_and_empty_rooms(self):
        catch = (((0, 1), ((0, 1), ())),)
        rooms = (((), -1), ((), 0), ((0, 1), 1))
        edge = (2, ((0, 1),))
        self.assertEqual(hunt_of(edge, rooms), (((0, 1), ((), (((0, 1), ((), catch)),))),))
        rooms = (((0,), -1), ((0,), 0), ((0, 1), 1))
        below = (((1,), ((0,), (((1,), ((0, 1), ())),))),)
        self.assertEqual(hunt_of(edge, rooms), (((0, 1), ((0,), below)),))

    def test_an_empty_room_does_not_hold_a_part(self):
        rooms = (((0,), -1), ((), 0), ((1,), 0), ((), 0))
        hunt = (((0,), ((0,), ())), ((1,), ((0,), (((1,), ((1,), ())),))))
        self.assertEqual(hunt_of((2, ()), rooms), hunt)

    def test_a_part_in_rooms_farther_below(self):
        # The part of 2 and 3 is in no single room right below the first one, but in those below it.
        rooms = (((0,), -1), ((1,), 0), ((1, 2), 1), ((2, 3), 2))
        below = (((2, 3), ((1, 2), (((3,), ((2, 3), ())),))),)
        hunt = ((0,), (((1, 2, 3), ((1,), below)),))
        self.assertEqual(hunt_of((4, ((1, 2), (2, 3))), rooms)[1], ((1, 2, 3), hunt))

    def assert_hunt(self, graph, rooms):
        hunt = hunt_of(graph, rooms)
        where = (graph, rooms)
        self.assertEqual(hunt, plain_hunt_of(graph, rooms), where)
        self.assertIs(hunt_holds(graph, most_nodes(rooms), hunt), True, where)
        self.assertTrue(plain_hunt_holds(graph, most_nodes(rooms), hunt), where)
        self.assertLessEqual(most_searchers(hunt), most_nodes(rooms), where)

    def test_every_order_of_small_graphs(self):
        for graph in every_small_graph(4):
            for order in every_order(graph[0]):
                self.assert_hunt(graph, rooms_of(graph, order))

    def test_drawn_rooms(self):
        chance = random.Random(11)
        for _ in range(400):
            graph = some_graph(chance, chance.randint(1, 8))
            self.assert_hunt(graph, some_rooms(chance, graph, chance.randint(0, 8)))

    def test_best_orders_of_larger_graphs(self):
        chance = random.Random(16)
        for _ in range(60):
            graph = some_graph(chance, chance.randint(6, 8))
            order = best_order(graph)
            hunt = hunt_of(graph, rooms_of(graph, order))
            self.assertIs(hunt_holds(graph, order_need(graph, order), hunt), True, graph)

    def test_as_many_rooms_as_the_limit_lets(self):
        rooms = (((0,), -1),) + tuple(((0,), at) for at in range(18)) + (((0, 1), 18),)
        hunt = (((1,), ((0, 1), ())),)
        for _ in range(18):
            hunt = (((1,), ((0,), hunt)),)
        self.assertEqual(hunt_of((2, ((0, 1),)), rooms), (((0, 1), ((0,), hunt)),))
        more = (((0,), -1),) + tuple(((0,), at) for at in range(60)) + (((0, 1), 60),)
        self.assertIs(hunt_holds((2, ((0, 1),)), 2, hunt_of((2, ((0, 1),)), more)), True)


class TestPlanOf(unittest.TestCase):
    def test_the_first_room_alone(self):
        self.assertEqual(plan_of((((0,), -1),)), ((0,),))
        self.assertEqual(plan_of((((0, 1, 2), -1),)), ((0, 1, 2),))

    def test_shared_nodes_and_room(self):
        self.assertEqual(plan_of(ROOMS4), ((0, 1), (1,), (1, 2), (2,), (2, 3)))
        rooms = (((1, 2), -1), ((2, 3), 0), ((0, 1), 0))
        self.assertEqual(plan_of(rooms), ((1, 2), (2,), (2, 3), (1,), (0, 1)))
        rooms = (((0, 2, 4), -1), ((0, 1, 2), 0), ((0, 3, 4), 0), ((3, 5), 2))
        self.assertEqual(plan_of(rooms), ((0, 2, 4), (0, 2), (0, 1, 2), (0, 4), (0, 3, 4), (3,), (3, 5)))

    def test_nothing_shared(self):
        self.assertEqual(plan_of((((0,), -1), ((1,), 0), ((2,), 0))), ((0,), (), (1,), (), (2,)))

    def test_double_and_empty_rooms(self):
        rooms = (((), -1), ((0, 1), 0), ((0, 1), 1), ((), 1))
        self.assertEqual(plan_of(rooms), ((), (), (0, 1), (0, 1), (0, 1), (), ()))

    def assert_plan(self, graph, rooms):
        plan = plan_of(rooms)
        where = (graph, rooms)
        self.assertEqual(plan, plain_plan_of(rooms), where)
        self.assertEqual(searchers_of(plan), most_nodes(rooms), where)
        self.assertIn(set(), plain_possible(graph, plan, "lazy"), where)
        self.assertLess(caught_at(graph, plan, "lazy"), 2 * len(rooms) - 1, where)
        self.assertIs(gives_ground(graph, plan, "lazy"), False, where)

    def test_every_order_of_small_graphs(self):
        for graph in every_small_graph(4):
            for order in every_order(graph[0]):
                self.assert_plan(graph, rooms_of(graph, order))

    def test_drawn_rooms(self):
        chance = random.Random(12)
        for _ in range(400):
            graph = some_graph(chance, chance.randint(1, 8))
            self.assert_plan(graph, some_rooms(chance, graph, chance.randint(0, 8)))

    def test_all_edges(self):
        graph = (8, tuple(every_pair(8)))
        plan = plan_of(rooms_of(graph, tuple(range(8))))
        self.assertEqual(searchers_of(plan), 8)
        self.assertEqual(caught_at(graph, plan, "lazy"), 14)


if __name__ == "__main__":
    unittest.main()
