import random
import time
import unittest
from itertools import permutations, product

from havenorhunt.meaning import Trials, holds, holds_in
from havenorhunt.sentences import read_sentence
from tests.plain import every_set, every_small_graph, some_graph
from tests.plain_sentences import balanced, great_sentence, plain_free, some_sentence, tried

PATH4 = (4, ((0, 1), (1, 2), (2, 3)))
STAR4 = (4, ((0, 1), (0, 2), (0, 3)))
RING3 = (3, ((0, 1), (0, 2), (1, 2)))
BARE3 = (3, ())
ONE = (1, ())

# Each fact with the sets of x and y for which it holds on the path 0 - 1 - 2 - 3.
FACTS = {
    "within x y": lambda x, y: {*x} <= {*y},
    "joined x y": lambda x, y: any(abs(one - two) == 1 for one in x for two in y),
    "single x": lambda x, y: len(x) == 1,
    "single y": lambda x, y: len(y) == 1,
    "empty x": lambda x, y: x == (),
    "empty y": lambda x, y: y == (),
    "joined x x": lambda x, y: any(one + 1 in x for one in x),
    "within x x": lambda x, y: True,
}


class TestHolds(unittest.TestCase):
    def assert_holds(self, graph, text, sets, wanted):
        found = holds(graph, read_sentence(text), tuple(sorted(sets.items())))
        self.assertIs(found, wanted, (graph, text, sets))

    def test_each_fact_for_all_sets(self):
        for text, told in FACTS.items():
            for x, y in product(every_set(4), repeat=2):
                sets = {name: nodes for name, nodes in (("x", x), ("y", y)) if name in text.split(" ")[1:]}
                self.assert_holds(PATH4, text, sets, told(x, y))
                self.assert_holds(PATH4, f"not {text}", sets, not told(x, y))

    def test_within(self):
        everything = (0, 1, 2)
        for x, y, wanted in (((), (), True), ((), (0,), True), ((1,), (), False), ((1,), (1,), True),
                             ((1,), (0, 2), False), ((0, 2), everything, True), (everything, (0, 2), False),
                             (everything, everything, True), ((), everything, True), (everything, (), False)):
            self.assert_holds(BARE3, "within x y", {"x": x, "y": y}, wanted)

    def test_joined(self):
        for x, y, wanted in (((), (), False), ((), (0, 1, 2, 3), False), ((0,), (0,), False), ((0,), (1,), True),
                             ((1,), (0,), True), ((1,), (2,), False), ((1, 2, 3), (1, 2, 3), False),
                             ((1, 2, 3), (0,), True), ((0, 1, 2, 3), (0, 1, 2, 3), True), ((0, 1), (0, 1), True)):
            self.assert_holds(STAR4, "joined x y", {"x": x, "y": y}, wanted)

    def test_single_and_empty(self):
        for x in every_set(3):
            self.assert_holds(RING3, "single x", {"x": x}, len(x) == 1)
            self.assert_holds(RING3, "empty x", {"x": x}, len(x) == 0)
        self.assert_holds(ONE, "single x", {"x": (0,)}, True)
        self.assert_holds(ONE, "empty x", {"x": (0,)}, False)
        self.assert_holds(ONE, "joined x x", {"x": (0,)}, False)

    def test_not_and_or(self):
        for x, y in product((False, True), repeat=2):
            sets = {"x": (0,) if x else (), "y": (1, 2) if y else ()}
            for word, wanted in (("and", x and y), ("or", x or y)):
                self.assert_holds(BARE3, f"{word} not empty x not empty y", sets, wanted)
                self.assert_holds(BARE3, f"not {word} not empty x not empty y", sets, not wanted)
            self.assert_holds(BARE3, "not not empty x", {"x": sets["x"]}, not x)

    def test_some_and_each(self):
        for graph in every_small_graph(3):
            edges, count = len(graph[1]), graph[0]
            for text, wanted in (
                ("some x joined x x", edges > 0), ("each x joined x x", False), ("each x not joined x x", edges == 0),
                ("some x single x", True), ("each x single x", False), ("some x empty x", True),
                ("each x or empty x single x", count == 1), ("some x not or empty x single x", count > 1),
                ("each x within x x", True), ("some x each y within y x", True), ("some x each y within x y", True),
                ("each x some y not within y x", False), ("each x some y not joined x y", True),
                ("each x each y within x y", False), ("some x some y and joined x y not joined x x", edges > 0),
            ):
                self.assert_holds(graph, text, {}, wanted)

    def test_sets_of_a_sentence_within(self):
        """Some set has both x and y, none lies outside of all nodes."""
        for x, y in product(every_set(3), repeat=2):
            self.assert_holds(BARE3, "some z and within x z within y z", {"x": x, "y": y}, True)
            self.assert_holds(BARE3, "each z or not within z x within z y", {"x": x, "y": y}, {*x} <= {*y})
            text = "some z and single z and within z x not within z y"
            self.assert_holds(BARE3, text, {"x": x, "y": y}, bool({*x} - {*y}))

    def test_a_name_bound_again(self):
        for x in every_set(3):
            sets = {"x": x}
            self.assert_holds(RING3, "and single x some x empty x", sets, len(x) == 1)
            self.assert_holds(RING3, "and some x empty x single x", sets, len(x) == 1)
            self.assert_holds(RING3, "some y and within y x each x or empty x not empty x", sets, True)
            within = "some y and within x y and some x not within x y not empty x"
            self.assert_holds(RING3, within, sets, 0 < len(x) < 3)
        self.assert_holds(RING3, "some x and single x some x empty x", {}, True)
        self.assert_holds(RING3, "some x and some x empty x single x", {}, True)
        self.assert_holds(RING3, "some x some x and single x empty x", {}, False)
        self.assert_holds(RING3, "each x some x single x", {}, True)
        self.assert_holds(RING3, "some x each x single x", {}, False)
        self.assert_holds(RING3, "each x or some x single x empty x", {}, True)

    def test_graphs_in_several_pieces(self):
        """Whether each set that is neither empty nor everything is joined to what is outside of it."""
        whole = "each x or empty x or each y or within y x some z and not within z x joined x z each z within z x"
        for graph, wanted in ((PATH4, True), (STAR4, True), ((4, ((0, 1), (2, 3))), False), ((4, ()), False),
                              (RING3, True), ((3, ((0, 2),)), False), (ONE, True), ((2, ()), False)):
            sentence = read_sentence(whole)
            self.assertIs(holds(graph, sentence, ()), tried((graph, ()), sentence, {}))
            outside = "some z and not within z x and single z joined x z"
            self.assert_holds(graph, f"each x or empty x or each z within z x {outside}", {}, wanted)

    def test_drawn_sentences_of_small_graphs(self):
        chance = random.Random(26)
        told = []
        for graph in every_small_graph(3):
            for _ in range(150):
                most = {1: 4, 2: 3, 3: 2}[graph[0]]
                self.assert_as_tried(chance, graph, (), most, told)
        self.assertTrue(500 < sum(told) < len(told) - 500)

    def test_drawn_sentences_of_larger_graphs(self):
        chance = random.Random(62)
        told = []
        for _ in range(1000):
            graph = some_graph(chance, chance.randint(4, 8))
            self.assert_as_tried(chance, graph, (), 2 if graph[0] < 6 else 1, told)
        self.assertTrue(300 < sum(told) < len(told) - 300)

    def assert_as_tried(self, chance, graph, border, most, told):
        scope = "".join(chance.sample("abcxyz", chance.randint(0, 3)))
        most = max(most, 0 if scope else 1)
        sentence = some_sentence(chance, scope, most, 4, len(border))
        sets = {name: chance.choice(every_set(graph[0])) for name in plain_free(sentence)}
        pairs = tuple(sorted(sets.items(), reverse=chance.random() < 0.5))
        wanted = tried((graph, border), sentence, {name: frozenset(nodes) for name, nodes in sets.items()})
        self.assertIs(holds_in((graph, border), sentence, pairs), wanted, (graph, border, sentence, pairs))
        if not border:
            self.assertIs(holds(graph, sentence, pairs), wanted, (graph, sentence, pairs))
        told.append(wanted)

    def test_rank_four(self):
        for graph in ((2, ()), (2, ((0, 1),)), RING3, (3, ((0, 1),))):
            chain = "some a each b some c each d or not within a d or joined b c within c d"
            self.assertIs(holds(graph, read_sentence(chain), ()), tried((graph, ()), read_sentence(chain), {}))
            last = "each a each b each c some d and within a d and within b d within c d"
            self.assert_holds(graph, last, {}, True)
            last = "some a some b some c some d and and single a not within b a and not within c b not within d c"
            self.assert_holds(graph, last, {}, True)


class TestHoldsIn(unittest.TestCase):
    def test_each_place(self):
        for count in (1, 2, 3):
            for border in permutations(range(4), count):
                for place in range(count):
                    for x in every_set(4):
                        found = holds_in((PATH4, border), ("at", place, "x"), (("x", x),))
                        self.assertIs(found, border[place] in x, (border, place, x))

    def test_places_of_bound_names(self):
        for border in permutations(range(4), 3):
            piece = (PATH4, border)
            for text, wanted in (
                ("some x and at 0 x and at 1 x at 2 x", True),
                ("some x and at 0 x not at 0 x", False),
                ("each x at 1 x", False),
                ("some x and single x and at 0 x at 1 x", False),
                ("some x and single x at 2 x", True),
                ("some x some y and and single x at 0 x and and single y at 1 y joined x y",
                 abs(border[0] - border[1]) == 1),
                ("some x some y and and single x at 2 x and and single y at 1 y joined x y",
                 abs(border[2] - border[1]) == 1),
                ("each x or not at 0 x joined x x", False),
            ):
                self.assertIs(holds_in(piece, read_sentence(text), ()), wanted, (border, text))

    def test_without_a_border(self):
        for graph in every_small_graph(3):
            for text in ("some x joined x x", "each x or empty x single x", "each x some y joined x y"):
                sentence = read_sentence(text)
                self.assertIs(holds_in((graph, ()), sentence, ()), holds(graph, sentence, ()))

    def test_the_border_alone_changes_nothing(self):
        for border in ((), (0,), (2, 1), (3, 0, 1)):
            for x in every_set(4):
                found = holds_in((PATH4, border), read_sentence("and joined x x not single x"), (("x", x),))
                self.assertIs(found, any(node + 1 in x for node in x))

    def test_drawn_sentences(self):
        chance = random.Random(33)
        told = []
        for _ in range(2000):
            graph = some_graph(chance, chance.randint(1, 5))
            border = tuple(chance.sample(range(graph[0]), chance.randint(0, min(3, graph[0]))))
            TestHolds.assert_as_tried(self, chance, graph, border, 2 if graph[0] < 5 else 1, told)
        self.assertTrue(600 < sum(told) < len(told) - 600)

    def test_long_sentences(self):
        """As long, and as deep, as parting may return them."""
        fact = read_sentence("or not within x y or joined x y and at 0 x not at 1 y")
        part = ("some", "y", fact)
        for _ in range(190):
            part = ("not", part)
        deep = ("each", "x", ("and", ("some", "y", fact), part))
        graph = (5, ((0, 1), (1, 2), (1, 4), (3, 4)))
        piece = (graph, (3, 1))
        self.assertIs(holds_in(piece, deep, ()), tried(piece, ("each", "x", ("some", "y", fact)), {}))
        many = [("some", "y", ("or", fact, ("single", name))) for name in "xyyx" * 300]
        wanted = tried(piece, ("each", "x", many[1]), {}), tried(piece, ("each", "x", many[0]), {})
        start = time.process_time()
        self.assertIs(holds_in(piece, ("each", "x", balanced("and", many)), ()), all(wanted))
        self.assertIs(holds_in(piece, ("each", "x", balanced("or", many)), ()), any(wanted))
        self.assertLess(time.process_time() - start, 5)


class TestAsLargeAsAllowed(unittest.TestCase):
    def test_no_long_waiting(self):
        chance = random.Random(24)
        start = time.process_time()
        for count, most in ((1, 4), (2, 4), (3, 4), (4, 3), (5, 2), (6, 2), (7, 1), (8, 1)):
            for _ in range(5):
                sentence = great_sentence(chance, "", "abcd"[:most], 4)
                graph = some_graph(chance, count)
                self.assertIn(holds(graph, sentence, ()), (True, False))
                self.assertIn(holds_in((graph, (0,)), sentence, ()), (True, False))
        self.assertLess(time.process_time() - start, 10)

    def test_right_at_the_limit(self):
        for count, names in ((3, "abcd"), (4, "abc"), (6, "ab")):
            chain = tuple(zip(names, names[1:]))
            inner = [("and", ("within", one, two), ("not", ("within", two, one))) for one, two in chain]
            nested = balanced("and", inner)
            for name in reversed(names):
                nested = ("some", name, nested)
            self.assertIs(holds((count, ()), nested, ()), True)
            ends = ("within", names[0], names[-1])
            full = balanced("or", [("not", ("within", one, two)) for one, two in chain] + [ends])
            for name in reversed(names):
                full = ("each", name, full)
            self.assertIs(holds((count, ()), full, ()), True)

    def test_drawn_sentences_right_at_the_limit(self):
        chance = random.Random(12)
        told = []
        for count, most in ((3, 4), (4, 3), (6, 2)):
            for _ in range(60):
                sentence = some_sentence(chance, "x", most, 2)
                piece = (some_graph(chance, count), ())
                nodes = chance.choice(every_set(count))
                wanted = tried(piece, sentence, {"x": frozenset(nodes)})
                self.assertIs(holds(piece[0], sentence, (("x", nodes),)), wanted, (piece, sentence, nodes))
                told.append(wanted)
        self.assertTrue(50 < sum(told) < len(told) - 50)

    def test_drawn_sentences_beyond_the_limit(self):
        chance = random.Random(13)
        told = []
        for count, most in ((3, 5), (4, 4), (6, 3)):
            for _ in range(20):
                sentence = some_sentence(chance, "", most, 1)
                piece = (some_graph(chance, count), ())
                wanted = tried(piece, sentence, {})
                self.assertIs(holds(piece[0], sentence, ()), wanted, (piece, sentence))
                told.append(wanted)
        self.assertTrue(10 < sum(told) < len(told) - 10)

    def test_names_around_one_another_stand_for_different_sets(self):
        for count, names in ((3, "abcde"), (4, "abcd"), (6, "abc")):
            for one, two in permutations(names, 2):
                some, each = ("not", ("within", one, two)), ("within", one, two)
                for name in reversed(names):
                    some, each = ("some", name, some), ("each", name, each)
                self.assertIs(holds((count, ()), some, ()), True, (count, one, two))
                self.assertIs(holds((count, ()), each, ()), False, (count, one, two))

    def test_numbers_stay_short(self):
        """As many trials at once as 2048 bits have room for, whatever the graph and the rank."""
        for count in range(1, 14):
            for depth in range(6):
                trials = Trials(((count, ()), ()), depth)
                self.assertLessEqual(trials.full.bit_length(), 2048)
                self.assertEqual(trials.levels, min(depth, 11 // count))

    def test_somewhat_beyond(self):
        chance = random.Random(14)
        for graph in ((7, ((0, 1), (5, 6))), (8, ((0, 7),)), (4, ((0, 1), (2, 3)))):
            names = "ab" if graph[0] > 4 else "abcd"
            for text, wanted in (
                ("some x and single x some y and joined x y not joined x y", False),
                ("some x and single x some y and joined x y not joined y y", True),
                ("each x or not joined x x each y not within y x", False),
            ):
                self.assertIs(holds(graph, read_sentence(text), ()), wanted)
            self.assertIn(holds(graph, great_sentence(chance, "", names, 4), ()), (True, False))
        for count in (9, 11, 12, 13):
            for text, wanted in (("some x joined x x", True), ("each x or not joined x x single x", False)):
                self.assertIs(holds((count, ((0, count - 1),)), read_sentence(text), ()), wanted)


if __name__ == "__main__":
    unittest.main()
