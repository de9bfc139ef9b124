import random
import unittest
from itertools import product

from havenorhunt.errors import NoCatch
from havenorhunt.graphs import read_graph
from havenorhunt.plans import caught_at, gives_ground, hunt_holds, possible_after, searchers_of
from tests.plain import (
    every_pair, every_set, every_small_graph, most_searchers, plain_hunt_holds, plain_possible, some_graph,
    some_set, spoilt, sweep, wander,
)

RUNNERS = ("unseen", "lazy")
EDGE = (2, ((0, 1),))
PATH3 = (3, ((0, 1), (1, 2)))
PATH4 = (4, ((0, 1), (1, 2), (2, 3)))
STAR4 = (4, ((0, 1), (0, 2), (0, 3)))


class PlanCase(unittest.TestCase):
    def assert_as_plain(self, graph, plan, runner):
        """All that is told of a plan agrees with the points worked out plainly."""
        sets = plain_possible(graph, plan, runner)
        where = (graph, plan, runner)
        self.assertEqual(possible_after(graph, plan, runner), tuple(tuple(sorted(s)) for s in sets[1:]), where)
        ground = any(after - before for before, after in zip(sets, sets[1:]))
        self.assertIs(gives_ground(graph, plan, runner), ground, where)
        if set() in sets:
            self.assertEqual(caught_at(graph, plan, runner), sets.index(set()) - 1, where)
        else:
            self.assertRaises(NoCatch, caught_at, graph, plan, runner)


class TestPossible(PlanCase):
    def test_example_of_the_document(self):
        self.assertEqual(possible_after(PATH3, ((0, 1), (1, 2)), "unseen"), ((2,), ()))

    def test_empty_plan(self):
        for runner in RUNNERS:
            self.assertEqual(possible_after(PATH3, (), runner), ())
            self.assertEqual(possible_after((1, ()), (), runner), ())

    def test_one_node(self):
        for runner in RUNNERS:
            self.assertEqual(possible_after((1, ()), ((), (0,), ()), runner), ((0,), (), ()))

    def test_who_stays_bars_the_way(self):
        self.assertEqual(possible_after(PATH4, ((0, 1), (1, 2), (2, 3)), "unseen"), ((2, 3), (3,), ()))

    def test_who_flies_lets_the_unseen_runner_by(self):
        plan = ((0,), (1,), (2,), (3,))
        self.assertEqual(possible_after(PATH4, plan, "unseen"), ((1, 2, 3), (0, 2, 3), (0, 1, 3), (0, 1, 2)))

    def test_lazy_runner_stays_where_nobody_lands(self):
        plan = ((0, 1), (2,), (3,))
        self.assertEqual(possible_after(PATH4, plan, "lazy"), ((2, 3), (0, 1, 3), (0, 1, 2)))
        self.assertEqual(possible_after(PATH4, ((0, 1), (1,), (), (3,)), "lazy"), ((2, 3), (2, 3), (2, 3), (0, 1, 2)))

    def test_lazy_runner_runs_from_under_the_searcher(self):
        self.assertEqual(possible_after(STAR4, ((0, 1), (0, 2), (0, 3)), "lazy"), ((2, 3), (3,), ()))
        self.assertEqual(possible_after(STAR4, ((1,), (2,), (3,)), "lazy"), ((0, 2, 3), (0, 1, 3), (0, 1, 2)))
        self.assertEqual(possible_after(STAR4, ((0,), (1,), (0,)), "lazy"), ((1, 2, 3), (0, 2, 3), (1, 2, 3)))

    def test_lazy_runner_with_nowhere_to_run(self):
        graph = read_graph("3: 1-2")
        self.assertEqual(possible_after(graph, ((0,), (1, 2)), "lazy"), ((1, 2), ()))

    def test_same_standing_twice(self):
        self.assertEqual(possible_after(PATH4, ((1,), (1,), (1,)), "unseen"), ((0, 2, 3),) * 3)
        self.assertEqual(possible_after(PATH4, ((0, 1), (0, 1)), "unseen"), ((2, 3), (2, 3)))
        self.assertEqual(possible_after(PATH4, ((0, 1), (2,), (2,)), "lazy"), ((2, 3), (0, 1, 3), (0, 1, 3)))

    def test_empty_standing_within_a_plan(self):
        plan = ((0, 1), (), (1, 2))
        self.assertEqual(possible_after(PATH3, plan, "unseen"), ((2,), (0, 1, 2), (0,)))
        self.assertEqual(possible_after(PATH3, plan, "lazy"), ((2,), (2,), (0,)))

    def test_parts_are_apart(self):
        graph = read_graph("4: 0-1 2-3")
        for runner in RUNNERS:
            self.assertEqual(possible_after(graph, ((0, 1), (2, 3)), runner), ((2, 3), ()))
        self.assertEqual(possible_after(graph, ((0, 1), (2,), (3,)), "lazy"), ((2, 3), (3,), (2,)))

    def test_goes_on_behind_the_catch(self):
        for runner in RUNNERS:
            plan = ((0, 1), (1, 2), (), (0,))
            self.assertEqual(possible_after(PATH3, plan, runner), ((2,), (), (), ()))

    def test_all_small_plans(self):
        for graph in every_small_graph(3):
            for runner in RUNNERS:
                for plan in product(every_set(graph[0]), repeat=3):
                    self.assert_as_plain(graph, plan, runner)

    def test_larger_plans(self):
        chance = random.Random(8)
        for _ in range(300):
            graph = some_graph(chance, chance.randint(4, 8))
            plan = tuple(some_set(chance, graph[0], 6) for _ in range(chance.randint(0, 12)))
            for runner in RUNNERS:
                self.assert_as_plain(graph, plan, runner)

    def test_beyond_the_limits(self):
        path = (12, tuple((node, node + 1) for node in range(11)))
        plan = tuple((node, node + 1) for node in range(11)) + ((10, 11),) * 120
        for runner in RUNNERS:
            self.assert_as_plain(path, plan, runner)
            self.assertEqual(caught_at(path, plan, runner), 10)


class TestCaught(PlanCase):
    def test_index_of_the_catch(self):
        for runner in RUNNERS:
            self.assertEqual(caught_at(PATH3, ((0, 1), (1, 2)), runner), 1)
            self.assertEqual(caught_at(PATH3, ((0, 1, 2),), runner), 0)
            self.assertEqual(caught_at(PATH3, ((), (0, 1, 2)), runner), 1)

    def test_first_of_several(self):
        for runner in RUNNERS:
            self.assertEqual(caught_at(PATH3, ((0, 1), (1, 2), (), (0, 1, 2)), runner), 1)

    def test_no_catch(self):
        for runner in RUNNERS:
            for plan in ((), ((),), ((0, 1),), ((0,), (1,), (2,)), ((0, 1), (), (1, 2))):
                with self.subTest(runner=runner, plan=plan):
                    self.assertRaises(NoCatch, caught_at, PATH3, plan, runner)

    def test_only_the_lazy_runner_is_caught(self):
        # While everybody is away the runner could go to the leaf 1, but nobody lands on it.
        plan = ((0, 1), (), (0,), (0, 2), (0, 3))
        self.assertEqual(caught_at(STAR4, plan, "lazy"), 4)
        self.assertRaises(NoCatch, caught_at, STAR4, plan, "unseen")

    def test_parts_that_are_apart(self):
        for runner in RUNNERS:
            self.assertEqual(caught_at(read_graph("4: 0-1 2-3"), ((0, 1), (), (2, 3)), runner), 2)


class TestGround(unittest.TestCase):
    def test_no_ground(self):
        for runner in RUNNERS:
            for plan in ((), ((),), ((0, 1), (1, 2)), ((0, 1), (1,), (1, 2)), ((1,), (1,))):
                with self.subTest(runner=runner, plan=plan):
                    self.assertIs(gives_ground(PATH3, plan, runner), False)

    def test_ground(self):
        for runner in RUNNERS:
            for plan in (((0,), (1,)), ((0, 1), (2,)), ((1,), (0,))):
                with self.subTest(runner=runner, plan=plan):
                    self.assertIs(gives_ground(PATH3, plan, runner), True)

    def test_only_the_unseen_runner_takes_it(self):
        for plan in (((0, 1), ()), ((0,), ()), ((0, 1), (0,), ())):
            self.assertIs(gives_ground(PATH3, plan, "unseen"), True)
            self.assertIs(gives_ground(PATH3, plan, "lazy"), False)

    def test_ground_given_early_or_late(self):
        for runner in RUNNERS:
            self.assertIs(gives_ground(PATH3, ((0,), (1,), (0, 1), (1, 2)), runner), True)
            self.assertIs(gives_ground(PATH3, ((0, 1), (1, 2), (), (0,)), runner), False)
            self.assertIs(gives_ground(PATH3, ((0, 1), (0, 1), (2,)), runner), True)

    def test_ground_given_and_others_taken(self):
        # As many nodes are possible as before, but not the same ones.
        self.assertIs(gives_ground(EDGE, ((0,), (1,)), "unseen"), True)
        self.assertEqual(possible_after(EDGE, ((0,), (1,)), "unseen"), ((1,), (0,)))


class TestSearchers(unittest.TestCase):
    def test_searchers(self):
        self.assertEqual(searchers_of(()), 0)
        self.assertEqual(searchers_of(((),)), 0)
        self.assertEqual(searchers_of(((0,), (1,))), 1)
        self.assertEqual(searchers_of(((0, 1, 2), (1,), ())), 3)
        self.assertEqual(searchers_of(((), (1,), (0, 1, 2))), 3)
        self.assertEqual(searchers_of(((1,), (4, 5, 6, 7), (0, 1))), 4)


def hunt_on_path(nodes):
    """The hunt with two searchers along the path 0 to nodes - 1."""
    branches = ()
    for node in reversed(range(1, nodes)):
        branches = ((tuple(range(node, nodes)), ((node - 1, node), branches)),)
    return ((tuple(range(nodes)), ((0,), branches)),)


class TestHunts(unittest.TestCase):
    def test_one_node(self):
        graph = (1, ())
        hunt = (((0,), ((0,), ())),)
        self.assertIs(hunt_holds(graph, 1, hunt), True)
        self.assertIs(hunt_holds(graph, 2, hunt), True)
        self.assertIs(hunt_holds(graph, 0, hunt), False)
        self.assertIs(hunt_holds(graph, 1, ()), False)
        self.assertIs(hunt_holds(graph, 1, (((0,), ((), ())),)), False)

    def test_path(self):
        for nodes in range(2, 9):
            graph = (nodes, tuple((node, node + 1) for node in range(nodes - 1)))
            self.assertIs(hunt_holds(graph, 2, hunt_on_path(nodes)), True)
            self.assertIs(hunt_holds(graph, 8, hunt_on_path(nodes)), True)
            self.assertIs(hunt_holds(graph, 1, hunt_on_path(nodes)), False)

    def test_searchers_see_in_which_part_the_runner_is(self):
        leaves = tuple(((leaf,), ((0, leaf), ())) for leaf in (1, 2, 3))
        hunt = (((0, 1, 2, 3), ((0,), leaves)),)
        self.assertIs(hunt_holds(STAR4, 2, hunt), True)
        self.assertIs(hunt_holds(STAR4, 1, hunt), False)
        for changed in (leaves[:2], leaves[1:], leaves[::-1], leaves + leaves[2:], leaves[:1] + leaves, ()):
            self.assertIs(hunt_holds(STAR4, 2, (((0, 1, 2, 3), ((0,), changed)),)), False)

    def test_several_parts(self):
        graph = read_graph("4: 0-3 1-2")
        first = ((0, 3), ((0, 3), ()))
        second = ((1, 2), ((1,), (((2,), ((1, 2), ())),)))
        self.assertIs(hunt_holds(graph, 2, (first, second)), True)
        for hunt in ((second, first), (first,), (second,), (first, first), (first, second, second), ()):
            self.assertIs(hunt_holds(graph, 2, hunt), False)

    def test_standings_in_another_part(self):
        # The searchers may stand where the runner is not; only its own part counts.
        graph = read_graph("3: 1-2")
        hunt = (
            ((0,), ((1,), (((0,), ((0,), ())),))),
            ((1, 2), ((0,), (((1, 2), ((1, 2), ())),))),
        )
        self.assertIs(hunt_holds(graph, 2, hunt), True)
        both = (((0,), ((0,), ())), ((1, 2), ((0,), (((0,), ((0,), ())), ((1, 2), ((1, 2), ()))))))
        self.assertIs(hunt_holds(graph, 2, both), False)

    def test_whoever_flies_lets_the_runner_by(self):
        # From (1,) to (2,) nobody stays: behind (2,) the runner of (2, 3) may be on either side.
        left = ((0, 1), ((0, 1, 2), ()))
        right = ((3,), ((2, 3), ()))
        fly = ((2,), (left, right))
        hunt = (((0, 1, 2, 3), ((1,), (((0,), ((0, 1), ())), ((2, 3), fly)))),)
        self.assertIs(hunt_holds(PATH4, 3, hunt), True)
        for below in ((right,), (left,), (right, left), ()):
            spoilt_hunt = (((0, 1, 2, 3), ((1,), (((0,), ((0, 1), ())), ((2, 3), ((2,), below))))),)
            self.assertIs(hunt_holds(PATH4, 3, spoilt_hunt), False)

    def test_the_runner_passes_a_node_before_somebody_lands_on_it(self):
        # While the searcher flies from 1 to 2, the runner of (0,) may run over 1 and 2 to 3.
        left = ((0, 1), ((0, 1, 2), ()))
        right = ((3,), ((2, 3), ()))
        last = ((2, 3), ((1, 2, 3), ()))
        hunt = (((0, 1, 2, 3), ((1,), (((0,), ((2,), (left, right))), last))),)
        self.assertIs(hunt_holds(PATH4, 3, hunt), True)
        for below in ((left,), (right,), (right, left), ()):
            changed = (((0, 1, 2, 3), ((1,), (((0,), ((2,), below)), last))),)
            self.assertIs(hunt_holds(PATH4, 3, changed), False)

    def test_wandering_hunts(self):
        chance = random.Random(3)
        for _ in range(150):
            graph = some_graph(chance, chance.randint(2, 7))
            hunt = wander(chance, graph, chance.randint(1, 3))
            most = most_searchers(hunt)
            self.assertIs(hunt_holds(graph, most, hunt), True, (graph, hunt))
            self.assertIs(hunt_holds(graph, most - 1, hunt), False, (graph, hunt))

    def test_same_and_empty_standings(self):
        catch = (((0, 1), ((0, 1), ())),)
        self.assertIs(hunt_holds(EDGE, 2, (((0, 1), ((), catch)),)), True)
        self.assertIs(hunt_holds(EDGE, 2, (((0, 1), ((), (((0, 1), ((), catch)),))),)), True)
        end = (((1,), ((0, 1), ())),)
        self.assertIs(hunt_holds(EDGE, 2, (((0, 1), ((0,), (((1,), ((0,), end)),))),)), True)
        self.assertIs(hunt_holds(EDGE, 2, (((0, 1), ((0,), (((1,), ((), catch)),))),)), True)
        self.assertIs(hunt_holds(EDGE, 2, (((0, 1), ((0,), (((1,), ((), end)),))),)), False)

    def test_branches_where_the_runner_is_caught(self):
        catch = (((0, 1), ((0, 1), ())),)
        self.assertIs(hunt_holds(EDGE, 2, catch), True)
        for part in every_set(2):
            self.assertIs(hunt_holds(EDGE, 2, (((0, 1), ((0, 1), ((part, ((0, 1), ())),))),)), False)

    def test_count_of_0(self):
        stand = (((0, 1), ((), ())),)
        self.assertIs(hunt_holds(EDGE, 0, ()), False)
        self.assertIs(hunt_holds(EDGE, 0, stand), False)
        self.assertIs(hunt_holds(EDGE, 0, (((0, 1), ((), stand)),)), False)
        self.assertIs(hunt_holds(EDGE, 0, (((0, 1), ((0, 1), ())),)), False)

    def test_one_node_more_than_the_count(self):
        for graph in every_small_graph(4):
            hunt = sweep(graph)
            most = most_searchers(hunt)
            for count in range(graph[0] + 1):
                self.assertIs(hunt_holds(graph, count, hunt), count >= most, (graph, count))

    def test_spoilt_hunts(self):
        for graph in [*every_small_graph(3), PATH4, STAR4, (4, ()), (4, tuple(every_pair(4)))]:
            hunt = sweep(graph)
            self.assertIs(hunt_holds(graph, 4, hunt), True)
            for what, changed in spoilt(graph[0], hunt):
                found = hunt_holds(graph, 4, changed)
                self.assertIs(found, plain_hunt_holds(graph, 4, changed), (graph, what, changed))
                # With another standing the searchers may still catch, with other branches never.
                if what != "standing":
                    self.assertIs(found, False, (graph, what, changed))

    def test_larger_spoilt_hunts(self):
        chance = random.Random(10)
        for _ in range(12):
            graph = some_graph(chance, chance.randint(5, 7))
            hunt = sweep(graph)
            self.assertIs(hunt_holds(graph, 8, hunt), True)
            for what, changed in chance.sample(list(spoilt(graph[0], hunt)), 120):
                found = hunt_holds(graph, 8, changed)
                self.assertIs(found, plain_hunt_holds(graph, 8, changed), (graph, what, changed))

    def test_a_changed_standing(self):
        hunt = (((0, 1, 2), ((0, 1), (((2,), ((1, 2), ())),))),)
        self.assertIs(hunt_holds(PATH3, 2, hunt), True)
        for last in ((), (0,), (1,), (2,), (0, 1), (0, 2)):
            changed = (((0, 1, 2), ((0, 1), (((2,), (last, ())),))),)
            self.assertIs(hunt_holds(PATH3, 2, changed), False, last)
        for first in ((), (0,), (1,), (2,), (0, 2), (1, 2)):
            changed = (((0, 1, 2), (first, (((2,), ((1, 2), ())),))),)
            self.assertIs(hunt_holds(PATH3, 2, changed), False, first)

    def test_deeper_than_the_limit(self):
        branches = (((0, 1), ((0, 1), ())),)
        for _ in range(1000):
            branches = (((0, 1), ((), branches)),)
        self.assertIs(hunt_holds(EDGE, 2, branches), True)
        self.assertIs(hunt_holds(EDGE, 1, branches), False)


class TestValues(unittest.TestCase):
    def test_sets_are_ascending_tuples(self):
        chance = random.Random(1)
        for _ in range(50):
            graph = some_graph(chance, 6)
            plan = tuple(some_set(chance, 6, 4) for _ in range(5))
            for runner in RUNNERS:
                found = possible_after(graph, plan, runner)
                self.assertIs(type(found), tuple)
                for nodes in found:
                    self.assertIs(type(nodes), tuple)
                    self.assertEqual(nodes, tuple(sorted(set(nodes))))


if __name__ == "__main__":
    unittest.main()
