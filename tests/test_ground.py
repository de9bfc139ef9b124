import random
import unittest

from havenorhunt.answers import count_along, true_along
from havenorhunt.errors import BadSentence, GroundError, NotHere
from havenorhunt.ground import Ground
from havenorhunt.needs import need
from havenorhunt.rooms import rooms_hold
from havenorhunt.sentences import read_sentence
from tests.plain import every_small_graph, some_graph
from tests.plain_papers import RUNNERS, least_need
from tests.plain_rooms import plain_rooms_of
from tests.plain_sentences import fitting_sentence, plain_free, tried_rows

ONE = (1, ())
EDGE = (2, ((0, 1),))
PATH3 = (3, ((0, 1), (1, 2)))
PATH4 = (4, ((0, 1), (1, 2), (2, 3)))
STAR8 = (8, tuple((0, leaf) for leaf in range(1, 8)))

JOINED = read_sentence("some x joined x x")
WHOLE = read_sentence("each x or or empty x some y and single y and joined x y not within y x each z within z x")
ALONE = read_sentence("not joined x x")
MEETS = read_sentence("each y or not single y or within y x joined x y")


class Followed:
    """A ground, and beside it what it must be, in plain words; and all that was there before each change."""

    def __init__(self, test, graph):
        self.test = test
        self.ground = Ground(graph)
        self.now = (graph, tuple(range(graph[0])))
        self.before = []
        self.check()

    def check(self):
        graph, order = self.now
        self.test.assertEqual(self.ground.graph, graph)
        self.test.assertEqual(self.ground.rooms, plain_rooms_of(graph, order), self.now)
        self.test.assertIs(rooms_hold(graph, 8, self.ground.rooms), True)

    def changed(self, graph, order):
        self.before.append(self.now)
        self.now = (graph, order)
        self.check()

    def assert_not_here(self, what, method, *passed):
        with self.test.assertRaises(NotHere, msg=(self.now, passed)) as caught:
            method(*passed)
        self.test.assertEqual(caught.exception.what, what, (self.now, passed))
        self.test.assertIsInstance(caught.exception, GroundError)
        self.check()

    def add(self):
        (count, edges), order = self.now
        if count == 8:
            self.assert_not_here("node", self.ground.add)
        else:
            self.test.assertEqual(self.ground.add(), count)
            self.changed((count + 1, edges), (count,) + order)

    def join(self, first, second):
        (count, edges), order = self.now
        edge = tuple(sorted((first, second)))
        if not {first, second} <= set(range(count)):
            self.assert_not_here("node", self.ground.join, first, second)
        elif first == second or edge in edges:
            self.assert_not_here("edge", self.ground.join, first, second)
        else:
            self.test.assertIs(self.ground.join(first, second), None)
            self.changed((count, tuple(sorted(edges + (edge,)))), order)

    def part(self, first, second):
        (count, edges), order = self.now
        edge = tuple(sorted((first, second)))
        if not {first, second} <= set(range(count)):
            self.assert_not_here("node", self.ground.part, first, second)
        elif edge not in edges:
            self.assert_not_here("edge", self.ground.part, first, second)
        else:
            self.test.assertIs(self.ground.part(first, second), None)
            self.changed((count, tuple(other for other in edges if other != edge)), order)

    def undo(self):
        self.test.assertIs(self.ground.undo(), bool(self.before))
        if self.before:
            self.now = self.before.pop()
        self.check()


class TestChanges(unittest.TestCase):
    def test_at_first(self):
        for graph in every_small_graph(4):
            followed = Followed(self, graph)
            followed.undo()
            self.assertEqual(followed.ground.graph, graph)
        self.assertEqual(Ground(PATH3).rooms, (((2,), -1), ((1, 2), 0), ((0, 1), 1)))

    def test_the_node_that_was_added_last_is_first_in_the_order(self):
        ground = Ground(PATH3)
        self.assertEqual(ground.add(), 3)
        self.assertEqual(ground.graph, (4, ((0, 1), (1, 2))))
        self.assertEqual(ground.rooms, (((2,), -1), ((1, 2), 0), ((0, 1), 1), ((3,), 0)))
        ground.join(3, 0)
        self.assertEqual(ground.graph, (4, ((0, 1), (0, 3), (1, 2))))
        self.assertEqual(ground.rooms, (((2,), -1), ((1, 2), 0), ((0, 1), 1), ((0, 3), 2)))
        self.assertEqual(ground.add(), 4)
        ground.join(4, 3)
        # 4 comes before 3 in the order, so its room is the last one, and not that of 3.
        self.assertEqual(ground.rooms, (((2,), -1), ((1, 2), 0), ((0, 1), 1), ((0, 3), 2), ((3, 4), 3)))
        ground.join(4, 2)
        self.assertEqual(ground.rooms, (((2,), -1), ((1, 2), 0), ((0, 1, 2), 1), ((0, 2, 3), 2), ((2, 3, 4), 3)))

    def test_add_up_to_eight(self):
        for graph in (ONE, PATH3, PATH4, STAR8):
            followed = Followed(self, graph)
            for _ in range(10):
                followed.add()
            self.assertEqual(followed.ground.graph, (8, graph[1]))
            for _ in range(10):
                followed.undo()
            self.assertEqual(followed.ground.graph, graph)
            followed.add()

    def test_join_and_part(self):
        followed = Followed(self, PATH4)
        for first, second in ((0, 2), (3, 0), (3, 1)):
            followed.join(first, second)
        self.assertEqual(followed.ground.graph, (4, ((0, 1), (0, 2), (0, 3), (1, 2), (1, 3), (2, 3))))
        for first, second in ((1, 0), (2, 3), (0, 3)):
            followed.part(first, second)
        self.assertEqual(followed.ground.graph, (4, ((0, 2), (1, 2), (1, 3))))
        followed.join(1, 0)
        self.assertEqual(followed.ground.graph, (4, ((0, 1), (0, 2), (1, 2), (1, 3))))

    def assert_what(self, what, method, *passed):
        with self.assertRaises(NotHere) as caught:
            method(*passed)
        self.assertEqual(caught.exception.what, what, passed)

    def test_nodes_that_are_not_there(self):
        ground = Ground(PATH3)
        pairs = ((0, 3), (3, 0), (3, 3), (-1, 0), (1, -1), (-1, -1), (3, 4), (8, 1), (10 ** 30, 2), (-3, 1))
        for method in (ground.join, ground.part):
            for first, second in pairs:
                self.assert_what("node", method, first, second)
        self.assertEqual(ground.graph, PATH3)
        self.assertIs(ground.undo(), False)

    def test_edges_that_are_not_there(self):
        ground = Ground(PATH3)
        for node in range(3):
            self.assert_what("edge", ground.join, node, node)
            self.assert_what("edge", ground.part, node, node)
        for first, second in ((0, 1), (1, 0), (1, 2), (2, 1)):
            self.assert_what("edge", ground.join, first, second)
        for first, second in ((0, 2), (2, 0)):
            self.assert_what("edge", ground.part, first, second)
        self.assertEqual(ground.graph, PATH3)
        self.assertIs(ground.undo(), False)

    def test_an_error_changes_nothing(self):
        """Undo then takes the change before the error back."""
        followed = Followed(self, PATH3)
        followed.join(0, 2)
        for method, first, second in (
            (followed.join, 0, 2), (followed.join, 1, 1), (followed.join, 0, 3),
            (followed.part, 1, 4), (followed.part, 2, 2),
        ):
            method(first, second)
        self.assertRaises(BadSentence, followed.ground.is_true, ALONE)
        followed.check()
        followed.undo()
        self.assertEqual(followed.ground.graph, PATH3)
        followed.part(0, 1)
        followed.part(0, 1)
        followed.undo()
        self.assertEqual(followed.ground.graph, PATH3)
        eight = Followed(self, (7, ((0, 6),)))
        eight.add()
        eight.add()
        eight.undo()
        self.assertEqual(eight.ground.graph, (7, ((0, 6),)))

    def test_undo_behind_undo(self):
        followed = Followed(self, EDGE)
        followed.add()
        followed.join(2, 0)
        followed.part(0, 1)
        followed.add()
        followed.join(3, 1)
        for wanted in ((4, ((0, 2),)), (3, ((0, 2),)), (3, ((0, 1), (0, 2))), (3, ((0, 1),)), EDGE, EDGE, EDGE):
            followed.undo()
            self.assertEqual(followed.ground.graph, wanted)
        self.assertIs(followed.ground.undo(), False)

    def test_changes_behind_an_undo(self):
        followed = Followed(self, EDGE)
        followed.add()
        followed.join(2, 0)
        followed.undo()
        followed.join(2, 1)
        followed.undo()
        followed.undo()
        followed.add()
        self.assertEqual(followed.ground.graph, (3, ((0, 1),)))
        followed.part(0, 1)
        followed.undo()
        followed.undo()
        followed.undo()
        self.assertEqual(followed.ground.graph, EDGE)

    def test_drawn_changes(self):
        chance = random.Random(37)
        for _ in range(60):
            followed = Followed(self, some_graph(chance, chance.randint(1, 6)))
            for _ in range(60):
                count = followed.now[0][0]
                pair = chance.randint(-1, count), chance.randint(0, count - 1)
                kind = chance.choice(("add", "join", "join", "join", "part", "part", "undo", "undo"))
                if kind in ("join", "part"):
                    getattr(followed, kind)(*chance.sample(pair, 2))
                else:
                    getattr(followed, kind)()
            while followed.before:
                followed.undo()
            followed.undo()

    def test_two_grounds_of_one_graph(self):
        first, second = Ground(PATH4), Ground(PATH4)
        first.add()
        first.join(4, 0)
        self.assertEqual(second.graph, PATH4)
        self.assertIs(second.undo(), False)
        second.part(0, 1)
        self.assertEqual(first.graph, (5, ((0, 1), (0, 4), (1, 2), (2, 3))))
        self.assertIs(first.undo(), True)
        self.assertEqual(second.graph, (4, ((1, 2), (2, 3))))
        self.assertEqual(second.count(ALONE), 10)
        self.assertEqual(PATH4, (4, ((0, 1), (1, 2), (2, 3))))

    def test_a_graph_that_was_read_stays(self):
        ground = Ground(PATH3)
        graph, rooms = ground.graph, ground.rooms
        ground.join(0, 2)
        ground.add()
        self.assertEqual((graph, rooms), (PATH3, (((2,), -1), ((1, 2), 0), ((0, 1), 1))))


class TestAnswers(unittest.TestCase):
    def assert_answers(self, ground, graph, sentences):
        self.assertEqual(ground.graph, graph)
        rooms = ground.rooms
        for _ in range(2):
            for runner in RUNNERS:
                self.assertEqual(ground.need(runner), need(graph, runner), (graph, runner))
            for sentence in sentences:
                rows = tried_rows(graph, sentence)
                self.assertEqual(ground.count(sentence), len(rows), (graph, sentence))
                self.assertEqual(ground.count(sentence), count_along(graph, rooms, sentence))
                if plain_free(sentence):
                    self.assertRaises(BadSentence, ground.is_true, sentence)
                else:
                    self.assertIs(ground.is_true(sentence), bool(rows), (graph, sentence))
                    self.assertIs(ground.is_true(sentence), true_along(graph, rooms, sentence))
        self.assertEqual((ground.graph, ground.rooms), (graph, rooms))

    def test_by_hand(self):
        ground = Ground(EDGE)
        self.assertEqual([ground.need(runner) for runner in RUNNERS], [2, 2, 2])
        self.assertEqual(ground.count(ALONE), 3)
        self.assertIs(ground.is_true(JOINED), True)
        self.assertIs(ground.is_true(WHOLE), True)
        ground.add()
        self.assertEqual(ground.count(ALONE), 6)
        self.assertIs(ground.is_true(WHOLE), False)
        ground.join(0, 2)
        ground.join(1, 2)
        self.assertEqual([ground.need(runner) for runner in RUNNERS], [3, 3, 3])
        self.assertEqual(ground.count(ALONE), 4)
        self.assertEqual(ground.count(MEETS), 7)
        self.assertIs(ground.is_true(WHOLE), True)
        ground.part(0, 1)
        self.assertEqual([ground.need(runner) for runner in RUNNERS], [2, 2, 2])
        self.assertEqual(ground.count(ALONE), 5)
        for wanted in (4, 5, 6, 3):
            self.assertIs(ground.undo(), True)
            self.assertEqual(ground.count(ALONE), wanted)
            self.assertEqual(ground.count(ALONE), wanted)
        ground.part(1, 0)
        self.assertEqual([ground.need(runner) for runner in RUNNERS], [1, 1, 1])
        self.assertIs(ground.is_true(JOINED), False)
        self.assertEqual(ground.count(JOINED), 0)
        self.assertIs(ground.undo(), True)
        self.assertEqual(ground.count(JOINED), 1)

    def test_kinds_of_values(self):
        ground = Ground(EDGE)
        self.assertIs(type(ground.count(JOINED)), int)
        self.assertIs(type(ground.need("seen")), int)
        self.assertIs(ground.join(ground.add(), 0), None)
        self.assertIs(ground.part(0, 1), None)

    def test_needs(self):
        for graph in every_small_graph(4):
            ground = Ground(graph)
            for runner in RUNNERS:
                self.assertEqual(ground.need(runner), least_need(graph, runner))

    def test_before_and_behind_changes(self):
        chance = random.Random(73)
        for _ in range(25):
            graph = some_graph(chance, chance.randint(1, 4))
            ground, earlier = Ground(graph), []
            for _ in range(8):
                count, edges = graph
                sentences = [ALONE, fitting_sentence(chance, count, free=chance.choice((0, 1)))]
                self.assert_answers(ground, graph, sentences)
                kind = chance.choice(("add", "change", "change", "change", "undo"))
                if kind == "undo":
                    self.assertIs(ground.undo(), bool(earlier))
                    graph = earlier.pop() if earlier else graph
                elif kind == "add" and count < 6 or count == 1:
                    earlier.append(graph)
                    ground.add()
                    graph = (count + 1, edges)
                else:
                    edge = tuple(sorted(chance.sample(range(count), 2)))
                    earlier.append(graph)
                    if edge in edges:
                        ground.part(*edge)
                        graph = (count, tuple(other for other in edges if other != edge))
                    else:
                        ground.join(*edge)
                        graph = (count, tuple(sorted(edges + (edge,))))

    def test_free_names(self):
        ground = Ground(PATH4)
        for text in ("single x", "some x within x y", "and single x some x single x", "joined x y"):
            for _ in range(2):
                self.assertRaises(BadSentence, ground.is_true, read_sentence(text))
        self.assertIs(ground.undo(), False)
        self.assertEqual(ground.count(read_sentence("joined x y")), len(tried_rows(PATH4, ("joined", "x", "y"))))

    def test_eight_nodes(self):
        ground = Ground(ONE)
        for _ in range(7):
            ground.join(0, ground.add())
        self.assertEqual(ground.graph, STAR8)
        self.assertEqual(ground.count(ALONE), 129)
        self.assertIs(ground.is_true(JOINED), True)
        self.assertEqual([ground.need(runner) for runner in RUNNERS], [2, 2, 2])


if __name__ == "__main__":
    unittest.main()
