import random
import unittest

from havenorhunt.graphs import read_graph
from havenorhunt.havens import _chosen, haven, haven_holds
from havenorhunt.orders import best_order, order_need
from tests.plain import every_pair, every_set, every_small_graph, some_graph
from tests.plain_papers import (
    is_caught, least_need, parts_of, plain_haven_holds, shapes, small_shapes, standings_of,
)

EDGE = (2, ((0, 1),))
PATH3 = (3, ((0, 1), (1, 2)))
RING3 = (3, ((0, 1), (0, 2), (1, 2)))
RING4 = (4, ((0, 1), (0, 3), (1, 2), (2, 3)))
TWO_EDGES = (4, ((0, 1), (2, 3)))
CUBE = read_graph("8: 0-1 0-2 0-4 1-3 1-5 2-3 2-6 3-7 4-5 4-6 5-7 6-7")

HAVEN2 = (
    ((), (0, 1, 2)), ((0,), (1, 2)), ((0, 1), (2,)), ((0, 2), (1,)), ((1,), (0, 2)), ((1, 2), (0,)), ((2,), (0, 1)),
)


def spoilt_havens(graph, count, pairs):
    """Pairs (what was done, pairs), in each of which one thing is changed."""
    for at, (standing, part) in enumerate(pairs):
        front, back = pairs[:at], pairs[at + 1:]
        yield "left out", front + back
        yield "doubled", front + (pairs[at], pairs[at]) + back
        for there, other in enumerate(back):
            yield "exchanged", front + (other,) + back[:there] + (pairs[at],) + back[there + 1:]
        for nodes in every_set(graph[0]):
            if nodes != standing:
                yield "standing", front + ((nodes, part),) + back
            if nodes != part:
                yield "part", front + ((standing, nodes),) + back
            if len(nodes) > count:
                yield "too many", tuple(sorted(pairs + ((nodes, part),)))


def some_choices(graph, count):
    """Drawn choices of one part for each standing."""
    standings = sorted(standings_of(graph, count))
    chance = random.Random(count)
    for _ in range(60):
        yield tuple((standing, chance.choice(parts_of(graph, standing))) for standing in standings)


class TestHavenHolds(unittest.TestCase):
    def test_by_hand(self):
        self.assertIs(haven_holds((1, ()), 0, (((), (0,)),)), True)
        self.assertIs(haven_holds(EDGE, 1, (((), (0, 1)), ((0,), (1,)), ((1,), (0,)))), True)
        self.assertIs(haven_holds(RING3, 2, HAVEN2), True)
        self.assertIs(haven_holds(TWO_EDGES, 0, (((), (0, 1)),)), True)
        self.assertIs(haven_holds(TWO_EDGES, 0, (((), (2, 3)),)), True)

    def test_no_pairs(self):
        for graph in every_small_graph(3):
            for count in range(9):
                self.assertIs(haven_holds(graph, count, ()), False)

    def test_another_count(self):
        for count in (0, 1, 3, 4, 8):
            self.assertIs(haven_holds(RING3, count, HAVEN2), False)

    def test_a_standing_left_out(self):
        for at in range(len(HAVEN2)):
            self.assertIs(haven_holds(RING3, 2, HAVEN2[:at] + HAVEN2[at + 1:]), False)

    def test_a_standing_doubled(self):
        for at in range(len(HAVEN2)):
            self.assertIs(haven_holds(RING3, 2, HAVEN2[:at] + HAVEN2[at:at + 1] + HAVEN2[at:]), False)
        # Both parts are parts without the standing, but one of them is too much.
        pairs = (((), (0, 1)), ((), (2, 3)))
        self.assertIs(haven_holds(TWO_EDGES, 0, pairs), False)

    def test_two_exchanged(self):
        for at in range(len(HAVEN2) - 1):
            changed = HAVEN2[:at] + (HAVEN2[at + 1], HAVEN2[at]) + HAVEN2[at + 2:]
            self.assertIs(haven_holds(RING3, 2, changed), False)
        self.assertIs(haven_holds(EDGE, 1, (((0,), (1,)), ((), (0, 1)), ((1,), (0,)))), False)
        self.assertIs(haven_holds(EDGE, 1, (((), (0, 1)), ((1,), (0,)), ((0,), (1,)))), False)

    def test_a_standing_with_too_many_nodes(self):
        self.assertIs(haven_holds((1, ()), 0, (((), (0,)), ((0,), ()))), False)
        self.assertIs(haven_holds(EDGE, 0, (((), (0, 1)), ((0,), (1,)))), False)
        self.assertIs(haven_holds(EDGE, 0, (((), (0, 1)), ((0,), (1,)), ((1,), (0,)))), False)

    def test_no_part_without_the_standing(self):
        for part in every_set(3):
            self.assertIs(haven_holds(PATH3, 0, (((), part),)), part == (0, 1, 2))
            changed = HAVEN2[:2] + (((0, 1), part),) + HAVEN2[3:]
            self.assertIs(haven_holds(RING3, 2, changed), part == (2,))
        for part in every_set(4):
            self.assertIs(haven_holds(TWO_EDGES, 0, (((), part),)), part in ((0, 1), (2, 3)))

    def test_standing_of_all_nodes(self):
        for last in every_set(1):
            self.assertIs(haven_holds((1, ()), 1, (((), (0,)), ((0,), last))), False)
        for last in every_set(2):
            pairs = (((), (0, 1)), ((0,), (1,)), ((0, 1), last), ((1,), (0,)))
            self.assertIs(haven_holds(EDGE, 2, pairs), False)

    def test_parts_that_do_not_lie_in_one_part(self):
        # In each of these every part is one without its standing.
        pairs = (((), (0, 1, 2)), ((0,), (1, 2)), ((1,), (0,)), ((2,), (0, 1)))
        self.assertIs(haven_holds(PATH3, 1, pairs), True)
        graph = (3, ((0, 1),))
        pairs = (((), (0, 1)), ((0,), (1,)), ((1,), (0,)), ((2,), (0, 1)))
        self.assertIs(haven_holds(graph, 1, pairs), True)
        self.assertIs(haven_holds(graph, 1, (((), (2,)),) + pairs[1:]), False)
        self.assertIs(haven_holds(graph, 1, pairs[:1] + (((0,), (2,)),) + pairs[2:]), False)
        self.assertIs(haven_holds(graph, 1, pairs[:2] + (((1,), (2,)),) + pairs[3:]), False)

    def test_single_faults_in_a_ring(self):
        found = haven(RING4, 2)
        self.assertIs(haven_holds(RING4, 2, found), True)
        for what, changed in spoilt_havens(RING4, 2, found):
            self.assertIs(haven_holds(RING4, 2, changed), plain_haven_holds(RING4, 2, changed), (what, changed))

    def test_single_faults(self):
        for graph in every_small_graph(3):
            for count in range(least_need(graph, "seen")):
                pairs = haven(graph, count)
                for what, changed in spoilt_havens(graph, count, pairs):
                    found = haven_holds(graph, count, changed)
                    self.assertIs(found, plain_haven_holds(graph, count, changed), (graph, count, what, changed))
                    if what != "part":
                        self.assertIs(found, False, (graph, count, what, changed))

    def test_single_faults_of_larger_havens(self):
        chance = random.Random(19)
        told = set()
        for _ in range(40):
            graph = some_graph(chance, chance.randint(4, 6))
            most = order_need(graph, best_order(graph)) - 1
            count = chance.randint(0, min(3, most))
            pairs = haven(graph, count)
            changes = list(spoilt_havens(graph, count, pairs))
            for what, changed in chance.sample(changes, min(40, len(changes))):
                found = haven_holds(graph, count, changed)
                self.assertIs(found, plain_haven_holds(graph, count, changed), (graph, count, what, changed))
                told.add((what, found))
        for what in ("left out", "doubled", "exchanged", "standing", "part", "too many"):
            self.assertIn((what, False), told)

    def test_drawn_choices_of_parts(self):
        # Each standing gets each part without it, also where two of them do not go together.
        told = set()
        for graph in small_shapes(4):
            for count in range(min(2, graph[0] - 1) + 1):
                for pairs in some_choices(graph, count):
                    found = haven_holds(graph, count, pairs)
                    self.assertIs(found, plain_haven_holds(graph, count, pairs), (graph, count, pairs))
                    told.add(found)
        self.assertEqual(told, {True, False})


class TestChoosing(unittest.TestCase):
    """The search goes back where a choice leads nowhere; no graph that was tried makes it do so."""

    # Three standings and, for each two of them, which parts lie together. The first two parts of
    # each fit to one another pair by pair, but not all three at once.
    TABLE = {
        0b011: [1, 2, 4], 0b101: [8, 16, 32], 0b110: [64, 128, 256],
        0b001: [1 | 8, 2 | 16, 4 | 32], 0b100: [8 | 64, 16 | 128, 32 | 256], 0b010: [1 | 128, 2 | 64, 4 | 256],
    }

    def test_another_choice(self):
        left = {0b011: [1, 2, 4], 0b101: [8, 16, 32], 0b110: [64, 128, 256]}
        self.assertEqual(_chosen(self.TABLE, left), {0b011: [4], 0b101: [32], 0b110: [256]})

    def test_no_choice(self):
        left = {0b011: [1, 2], 0b101: [8, 16], 0b110: [64, 128]}
        self.assertEqual(_chosen(self.TABLE, left), {})


class TestHaven(unittest.TestCase):
    def assert_haven(self, graph, count, need):
        pairs = haven(graph, count)
        if count >= need:
            self.assertIs(pairs, None, (graph, count))
        else:
            self.assertTrue(plain_haven_holds(graph, count, pairs), (graph, count, pairs))
            self.assertIs(haven_holds(graph, count, pairs), True, (graph, count, pairs))

    def test_by_hand(self):
        self.assertEqual(haven((1, ()), 0), (((), (0,)),))
        self.assertIs(haven((1, ()), 1), None)
        self.assertEqual(haven(EDGE, 1), (((), (0, 1)), ((0,), (1,)), ((1,), (0,))))
        self.assertIs(haven(EDGE, 2), None)
        self.assertEqual(haven(RING3, 2), HAVEN2)
        self.assertIn(haven(TWO_EDGES, 0), ((((), (0, 1)),), (((), (2, 3)),)))
        self.assertEqual(haven((3, ((0, 2),)), 1), (((), (0, 2)), ((0,), (2,)), ((1,), (0, 2)), ((2,), (0,))))

    def test_small_graphs(self):
        for graph in every_small_graph(4):
            need = least_need(graph, "seen")
            for count in range(9):
                self.assert_haven(graph, count, need)

    def test_five_nodes(self):
        for graph in shapes(5):
            for count in range(9):
                self.assert_haven(graph, count, least_need(graph, "seen"))

    def test_none_exactly_where_the_searchers_win(self):
        for graph in small_shapes(4):
            for count in range(graph[0] + 1):
                self.assertIs(haven(graph, count) is None, is_caught(graph, count, "seen"), (graph, count))

    def test_seven_and_eight_nodes(self):
        chance = random.Random(21)
        for _ in range(40):
            graph = some_graph(chance, chance.randint(6, 8))
            need = order_need(graph, best_order(graph))
            for count in range(9):
                pairs = haven(graph, count)
                self.assertIs(pairs is None, count >= need, (graph, count))
                if pairs is not None:
                    self.assertIs(haven_holds(graph, count, pairs), True, (graph, count))
            self.assertTrue(plain_haven_holds(graph, min(3, need - 1), haven(graph, min(3, need - 1))), graph)

    def test_larger_graphs_by_name(self):
        every = (8, tuple(every_pair(8)))
        sides = (8, tuple((one, two) for one in range(4) for two in range(4, 8)))
        for graph, need in ((every, 8), (sides, 5), (CUBE, 4), ((8, ()), 1), ((8, ((6, 7),)), 2)):
            for count in range(9):
                pairs = haven(graph, count)
                self.assertIs(pairs is None, count >= need, (graph, count))
                if pairs is not None:
                    self.assertIs(haven_holds(graph, count, pairs), True, (graph, count))
            self.assertTrue(plain_haven_holds(graph, need - 1, haven(graph, need - 1)), graph)

    def test_a_haven_beside_leaves_and_pieces(self):
        # Only in the ring can the runner stay; the other parts must not be taken.
        graph = read_graph("8: 0-1 0-3 2-3 3-4 4-7 5-6 5-7 6-7")
        self.assert_haven(graph, 2, 3)
        self.assert_haven(graph, 3, 3)
        graph = read_graph("8: 0-1 2-3 4-5 4-6 4-7 5-6 5-7 6-7")
        for count in range(9):
            self.assert_haven(graph, count, 4)

    def test_beyond_the_limits(self):
        ring = (10, tuple(sorted([(0, 9)] + [(node, node + 1) for node in range(9)])))
        self.assertIs(haven_holds(ring, 2, haven(ring, 2)), True)
        self.assertIs(haven(ring, 3), None)
        self.assertIs(haven(ring, 20), None)
        self.assertIs(haven_holds(ring, 20, haven(ring, 2)), False)


if __name__ == "__main__":
    unittest.main()
