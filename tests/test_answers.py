import random
import time
import unittest

from havenorhunt.answers import count_along, least_along, sets_along, true_along
from havenorhunt.errors import BadSentence, GroundError
from havenorhunt.rooms import rooms_of
from havenorhunt.sentences import read_sentence
from tests.plain import every_pair, every_set, every_small_graph, some_graph
from tests.plain_rooms import every_rooms, most_nodes, plain_rooms_hold, several_rooms, some_rooms
from tests.plain_sentences import (
    cheapest, fitting_sentence, great_sentence, joints_of, plain_free, plain_rank, tried, tried_rows,
)

EDGE = (2, ((0, 1),))
PATH3 = (3, ((0, 1), (1, 2)))
PATH4 = (4, ((0, 1), (1, 2), (2, 3)))
TWO_EDGES = (4, ((0, 1), (2, 3)))
RING4 = (4, ((0, 1), (0, 3), (1, 2), (2, 3)))
ROOMS4 = (((0, 1), -1), ((1, 2), 0), ((2, 3), 1))
ONE = (1, ())

ALONE = read_sentence("not joined x x")
MEETS = read_sentence("each y or not single y or within y x joined x y")
SENTENCES = [read_sentence(text) for text in (
    "empty x", "single x", "within x x", "joined x x", "not joined x x", "and single x not single x", "within x y",
    "joined x y", "and not joined x x not empty x", "or single x and empty x single y", "some x joined x x",
    "each x not joined x x", "each y or not single y or within y x joined x y", "some x within x y",
    "some y and single y joined x y", "each x or empty x single x", "and single x some x empty x",
    "some x and single x some x empty x", "and single y within x y", "and joined x y not joined y y",
)]


def full_rooms(count, many, in_a_row):
    """So many rooms with all nodes, each below the one before it or all right below the first."""
    nodes = tuple(range(count))
    return ((nodes, -1),) + tuple((nodes, at if in_a_row else 0) for at in range(many - 1))


class AlongTests(unittest.TestCase):
    def assert_answers(self, graph, sentence, trees, chance=random.Random(0)):
        """The four functions along all the trees, compared with trying all sets."""
        rows = tried_rows(graph, sentence)
        names = plain_free(sentence)
        prices = tuple(chance.randint(-3, 3) for _ in range(graph[0]))
        for rooms in trees:
            where = (graph, rooms, sentence, prices)
            self.assertEqual(sets_along(graph, rooms, sentence), rows, where)
            self.assertEqual(count_along(graph, rooms, sentence), len(rows), where)
            if names:
                self.assertRaises(BadSentence, true_along, graph, rooms, sentence)
            else:
                self.assertIs(true_along(graph, rooms, sentence), rows == ((),), where)
            if len(names) == 1:
                self.assertEqual(least_along(graph, rooms, sentence, prices), cheapest(rows, prices), where)
            else:
                self.assertRaises(BadSentence, least_along, graph, rooms, sentence, prices)
        return len(rows)


class TestByHand(AlongTests):
    def test_example_of_the_document(self):
        self.assertEqual(count_along(EDGE, (((0, 1), -1),), ("not", ("joined", "x", "x"))), 3)

    def test_sets_that_are_not_joined(self):
        self.assertEqual(sets_along(EDGE, (((0, 1), -1),), ALONE), (((),), ((0,),), ((1,),)))
        wanted = (((),), ((0,),), ((0, 2),), ((0, 3),), ((1,),), ((1, 3),), ((2,),), ((3,),))
        self.assertEqual(sets_along(PATH4, ROOMS4, ALONE), wanted)
        self.assertEqual(count_along(PATH4, ROOMS4, ALONE), 8)
        self.assertEqual(least_along(PATH4, ROOMS4, ALONE, (-1, -2, -3, -4)), (-6, (1, 3)))
        self.assertEqual(count_along(RING4, (((0, 1, 3), -1), ((1, 2, 3), 0)), ALONE), 7)

    def test_sets_that_meet_all(self):
        wanted = (((0, 1),), ((0, 1, 2),), ((0, 2),), ((1,),), ((1, 2),))
        self.assertEqual(sets_along(PATH3, rooms_of(PATH3, (0, 1, 2)), MEETS), wanted)
        self.assertEqual(least_along(PATH4, ROOMS4, MEETS, (1, 1, 1, 1)), (2, (0, 2)))
        self.assertEqual(least_along(PATH4, ROOMS4, MEETS, (5, 1, 1, 5)), (2, (1, 2)))
        self.assertEqual(least_along(PATH4, ROOMS4, MEETS, (1, 5, 5, 1)), (2, (0, 3)))

    def test_rows_of_two_and_three_names(self):
        rooms = (((0,), -1), ((0, 1), 0))
        wanted = (((), (0,)), ((), (1,)), ((0,), (0,)), ((1,), (1,)))
        self.assertEqual(sets_along(EDGE, rooms, read_sentence("and single b within a b")), wanted)
        # The first set of a row is that of the first name, wherever it stands in the sentence.
        wanted = (((0,), ()), ((0,), (0,)), ((1,), ()), ((1,), (1,)))
        self.assertEqual(sets_along(EDGE, rooms, read_sentence("and single a within b a")), wanted)
        wanted = (((), (), (0,)), ((), (0,), ()), ((0,), (), ()))
        three = "and and within a b not within b a and within b c not within c b"
        self.assertEqual(sets_along(EDGE, rooms, read_sentence(three)), (((), (0,), (0, 1)), ((), (1,), (0, 1))))
        one = "or or and single x and empty y empty z and single y and empty x empty z and single z and empty x empty y"
        self.assertEqual(sets_along(ONE, (((0,), -1),), read_sentence(one)), wanted)

    def test_without_free_names(self):
        texts = {"some x joined x x": True, "each x joined x x": False, "not some x joined x x": False}
        for text, wanted in texts.items():
            sentence = read_sentence(text)
            self.assertIs(true_along(PATH4, ROOMS4, sentence), wanted)
            self.assertEqual(count_along(PATH4, ROOMS4, sentence), 1 if wanted else 0)
            self.assertEqual(sets_along(PATH4, ROOMS4, sentence), ((),) if wanted else ())

    def test_kinds_of_values(self):
        for sentence in (ALONE, read_sentence("some x joined x x"), read_sentence("and single x empty x")):
            self.assertIs(type(count_along(PATH4, ROOMS4, sentence)), int)
            self.assertIs(type(sets_along(PATH4, ROOMS4, sentence)), tuple)

    def test_sentences_that_never_hold(self):
        sentence = read_sentence("and single x not single x")
        self.assertEqual(sets_along(PATH4, ROOMS4, sentence), ())
        self.assertEqual(count_along(PATH4, ROOMS4, sentence), 0)
        self.assertIs(least_along(PATH4, ROOMS4, sentence, (1, 1, 1, 1)), None)


class TestErrors(AlongTests):
    def test_free_names(self):
        inner = ("and single x some x single x", "some x within x y")
        for text in ("single x", "within x y", "and within x y single z") + inner:
            with self.assertRaises(BadSentence) as caught:
                true_along(PATH4, ROOMS4, read_sentence(text))
            self.assertIsInstance(caught.exception, GroundError)

    def test_least_along(self):
        for text in ("some x single x", "within x y", "and within x y single z", "some z and within x y single z"):
            with self.assertRaises(BadSentence):
                least_along(PATH4, ROOMS4, read_sentence(text), (1, 2, 3, 4))
        sentence = read_sentence("some y and single y within y x")
        self.assertEqual(least_along(PATH4, ROOMS4, sentence, (4, 2, 3, 1)), (1, (3,)))


class TestSmallGraphs(AlongTests):
    def test_many_sentences_along_several_trees(self):
        chance = random.Random(27)
        for graph in every_small_graph(4):
            trees = list(several_rooms(chance, graph))
            for rooms in trees:
                self.assertTrue(plain_rooms_hold(graph, most_nodes(rooms), rooms), (graph, rooms))
            for sentence in SENTENCES:
                if graph[0] < 4 or chance.random() < 0.4:
                    self.assert_answers(graph, sentence, trees, chance)

    def test_drawn_sentences(self):
        chance = random.Random(28)
        counts = {0: [], 1: [], 2: [], 3: []}
        for graph in every_small_graph(4):
            for _ in range(9 if graph[0] < 4 else 1):
                sentence = fitting_sentence(chance, graph[0])
                trees = list(several_rooms(chance, graph))
                rows = self.assert_answers(graph, sentence, trees, chance)
                counts[len(plain_free(sentence))].append(rows)
        for found in counts.values():
            self.assertGreater(len(found), 10)
            self.assertTrue(0 in found and max(found) > 0)

    def test_every_tree_of_few_rooms(self):
        chance = random.Random(29)
        for graph in every_small_graph(3):
            trees = list(every_rooms(graph, 3 if graph[0] < 3 else 2))
            self.assertGreater(len(trees), 2)
            for sentence in chance.sample(SENTENCES, 4) + [fitting_sentence(chance, graph[0]) for _ in range(2)]:
                self.assert_answers(graph, sentence, trees, chance)

    def test_every_tree_of_three_rooms(self):
        chance = random.Random(92)
        for graph in (PATH3, (3, ((0, 2),)), (3, ())):
            trees = chance.sample(list(every_rooms(graph, 3)), 150)
            for sentence in (SENTENCES[11], SENTENCES[12], SENTENCES[13]):
                self.assert_answers(graph, sentence, trees, chance)


class TestLargerGraphs(AlongTests):
    def test_drawn_sentences(self):
        chance = random.Random(30)
        for _ in range(60):
            graph = some_graph(chance, chance.randint(5, 8))
            sentence = fitting_sentence(chance, graph[0])
            self.assert_answers(graph, sentence, list(several_rooms(chance, graph)), chance)

    def test_graphs_in_several_pieces(self):
        chance = random.Random(31)
        for graph in (TWO_EDGES, (6, ((0, 1), (2, 3), (4, 5))), (5, ((0, 4), (1, 3))), (6, ()), (8, ((0, 7),))):
            for _ in range(6):
                sentence = fitting_sentence(chance, graph[0])
                trees = [some_rooms(chance, graph, changes) for changes in (0, 2, 4, 8)]
                self.assert_answers(graph, sentence, trees, chance)

    def test_twenty_rooms_and_more(self):
        for many in (20, 25):
            for in_a_row in (True, False):
                rooms = full_rooms(4, many, in_a_row)
                self.assert_answers(RING4, ALONE, [rooms])
                self.assert_answers(RING4, MEETS, [rooms])
                self.assert_answers(RING4, SENTENCES[11], [rooms])


class TestLeastAlong(AlongTests):
    def least(self, prices, sentence, graph=PATH4, rooms=ROOMS4):
        found = least_along(graph, rooms, sentence, prices)
        self.assertEqual(found, cheapest(tried_rows(graph, sentence), prices), (prices, sentence))
        return found

    def test_positive_and_negative_prices(self):
        self.assertEqual(self.least((1, 2, 3, 4), ALONE), (0, ()))
        self.assertEqual(self.least((-1, -2, -3, 4), ALONE), (-4, (0, 2)))
        self.assertEqual(self.least((-5, -2, 3, -4), ALONE), (-9, (0, 3)))
        self.assertEqual(self.least((4, 3, 2, 1), read_sentence("single x")), (1, (3,)))
        self.assertEqual(self.least((-4, 3, -2, 1), read_sentence("within x x")), (-6, (0, 2)))

    def test_several_sets_with_the_least_sum(self):
        self.assertEqual(self.least((0, 0, 0, 0), ALONE), (0, ()))
        self.assertEqual(self.least((0, 0, 0, 0), read_sentence("not empty x")), (0, (0,)))
        self.assertEqual(self.least((0, 0, 0, 0), read_sentence("joined x x")), (0, (0, 1)))
        # (1, 2) comes behind (0, 3) in the order of tuples, but its sum of 2 ** node is less.
        self.assertEqual(self.least((1, 1, 1, 1), read_sentence("and not single x not empty x")), (2, (0, 1)))
        self.assertEqual(self.least((2, 1, 2, 1), read_sentence("and not single x joined x x")), (3, (0, 1)))
        self.assertEqual(self.least((3, 2, 1, 0), MEETS), (2, (1, 3)))
        self.assertEqual(self.least((1, 0, 0, -1), read_sentence("not empty x")), (-1, (3,)))
        self.assertEqual(self.least((5, 0, 5, 0), read_sentence("not empty x")), (0, (1,)))
        self.assertEqual(self.least((1, 1, 1, 1), read_sentence("and joined x x not single x")), (2, (0, 1)))
        two = read_sentence("each y or not and single y within y x some z and single z and within z x not within z y")
        self.assertEqual(self.least((3, 3, 3, 3), ("and", two, ("not", ("empty", "x")))), (6, (0, 1)))
        self.assertEqual(self.least((2, 1, 1, 0), ("and", two, ("not", ("empty", "x")))), (1, (1, 3)))
        self.assertEqual(self.least((0, 9, 9, 0), ("and", two, ("joined", "x", "x"))), (9, (0, 1)))
        ring = (((0, 1, 2, 3), -1),)
        self.assertEqual(self.least((1, 3, 3, 1), ("and", two, ("joined", "x", "x")), RING4, ring), (2, (0, 3)))
        self.assertEqual(self.least((2, 2, 2, 2), ("and", two, ("joined", "x", "x")), RING4, ring), (4, (0, 1)))
        self.assertEqual(self.least((4, 2, 2, 0), ("and", two, ("joined", "x", "x")), RING4, ring), (2, (2, 3)))
        self.assertEqual(self.least((2, 2, 2, 2), ("and", two, ("not", ("joined", "x", "x"))), RING4, ring), (0, ()))

    def test_a_tie_that_tuples_would_decide_otherwise(self):
        """(0, 2) is less than (1,) as a tuple, but not by its sum of 2 ** node."""
        sentence = read_sentence("not empty x")
        self.assertEqual(self.least((-1, -2, -1, 3), sentence, (4, ()), (((0, 1, 2, 3), -1),)), (-4, (0, 1, 2)))
        self.assertEqual(self.least((1, 2, 1, 9), read_sentence("joined x x")), (3, (0, 1)))
        star = (3, ((0, 2),))
        odd = read_sentence("or joined x x and single x not some y and single y joined x y")
        self.assertEqual(self.least((1, 2, 1), odd, star, (((0, 1, 2), -1),)), (2, (1,)))

    def test_great_prices(self):
        great = 10 ** 31
        self.assertEqual(self.least((great, great + 1, great, great), MEETS), (2 * great, (0, 2)))
        self.assertEqual(self.least((-great, -great, 1 - great, -great), ALONE), (-2 * great, (0, 3)))
        self.assertEqual(self.least((great, -great, great, -great), read_sentence("within x x")), (-2 * great, (1, 3)))
        self.assertEqual(self.least((great, great, great - 1, great), read_sentence("single x")), (great - 1, (2,)))

    def test_no_set(self):
        for text in ("and single x empty x", "and joined x x empty x", "and not empty x each y within x y"):
            self.assertIs(self.least((1, -1, 0, 2), read_sentence(text)), None)

    def test_drawn(self):
        chance = random.Random(82)
        none = 0
        for _ in range(250):
            graph = some_graph(chance, chance.randint(1, 8))
            sentence = fitting_sentence(chance, graph[0], free=1)
            rooms = some_rooms(chance, graph, chance.randint(0, 6))
            scale = chance.choice((1, 2, 10 ** 31))
            prices = tuple(scale * chance.randint(-2, 2) + chance.randint(0, 1) for _ in range(graph[0]))
            none += self.least(prices, sentence, graph, rooms) is None
        self.assertTrue(10 < none < 150)


class TestAsLargeAsAllowed(AlongTests):
    def test_no_long_waiting(self):
        chance = random.Random(24)
        start = time.process_time()
        for count, free, bound in (
            (8, "", "x"), (8, "a", ""), (6, "", "xy"), (6, "a", "x"), (6, "ab", ""), (4, "", "xyz"), (4, "a", "xy"),
            (4, "ab", "x"), (4, "abc", ""), (3, "a", "xyz"), (3, "ab", "xy"), (3, "abc", "x"), (2, "abc", "xyz"),
        ):
            sentence = great_sentence(chance, free, bound, min(4, 7 - 2 * len(bound)))
            self.assertLessEqual(count * (plain_rank(sentence) + len(free)), 12)
            self.assertLessEqual(2 * plain_rank(sentence) + joints_of(sentence), 7)
            graph = (count, tuple(every_pair(count)))
            path = (count, tuple((node, node + 1) for node in range(count - 1)))
            drawn = (path, some_rooms(chance, path, 8))
            for graph, rooms in ((graph, full_rooms(count, 20, True)), (graph, full_rooms(count, 20, False)), drawn):
                self.assertEqual(count_along(graph, rooms, sentence), len(sets_along(graph, rooms, sentence)))
                if not free:
                    self.assertIs(true_along(graph, rooms, sentence), tried((graph, ()), sentence, {}))
                if len(free) == 1:
                    least_along(graph, rooms, sentence, (1,) * count)
        self.assertLess(time.process_time() - start, 40)

    def test_many_joints(self):
        sentence = ("single", "x")
        for at in range(7):
            sentence = ("not", sentence) if at % 2 else ("or", sentence, ("within", "x", "y"))
        graph = (6, ((0, 1), (1, 2), (3, 4)))
        self.assert_answers(graph, sentence, [full_rooms(6, 3, True), rooms_of(graph, (5, 0, 1, 2, 3, 4))])

    def test_somewhat_beyond(self):
        graph = (10, tuple((node, node + 1) for node in range(9)))
        rooms = rooms_of(graph, tuple(range(10)))
        self.assertEqual(count_along(graph, rooms, ALONE), 144)
        self.assertEqual(least_along(graph, rooms, MEETS, (1,) * 10)[0], 4)
        nested = ALONE
        for _ in range(20):
            nested = ("not", nested)
        self.assertEqual(count_along(PATH4, ROOMS4, nested), 8)
        self.assertEqual(len(every_set(4)), count_along(PATH4, ROOMS4, read_sentence("within x x")))


if __name__ == "__main__":
    unittest.main()
