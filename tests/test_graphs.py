import random
import re
import unittest

from havenorhunt.errors import BadText
from havenorhunt.graphs import border, parts, read_graph, write_graph
from tests.plain import (
    every_graph, every_pair, every_set, every_small_graph, plain_border, plain_parts, some_graph, some_set,
)

TEXTS = (
    ("1:", (1, ())),
    ("2:", (2, ())),
    ("2: 0-1", (2, ((0, 1),))),
    ("4: 0-1 1-3", (4, ((0, 1), (1, 3)))),
    ("5: 0-1 0-4 1-2 3-4", (5, ((0, 1), (0, 4), (1, 2), (3, 4)))),
    ("8:", (8, ())),
    ("8: 0-7 6-7", (8, ((0, 7), (6, 7)))),
)

BAD_TEXTS = {
    "empty": ("", " ", "\n"),
    "count of 0": ("0:",),
    "count of 9 and above": ("9:", "9: 0-1", "10:", "12: 0-1"),
    "no count": (":", ": 0-1"),
    "negative count": ("-1:", "-4: 0-1"),
    "sign in front of the count": ("+4: 0-1",),
    "no colon": ("4", "4 0-1", "4  0-1", "40-1"),
    "doubled colon": ("4::", "4:: 0-1"),
    "other sign than the colon": ("4; 0-1", "4- 0-1"),
    "colon put in": ("4: 0-1:", "4: 0-1: 1-3", "4: 0:1", "4 :", "4 : 0-1"),
    "no hyphen": ("4: 01", "4: 0 1", "4: 0-1 13"),
    "doubled hyphen": ("4: 0--1", "4: 0-1 1--3"),
    "hyphen put in": ("4: -0-1", "4: 0-1-", "4: 0-1 -1-3", "4:- 0-1", "4-: 0-1"),
    "other sign than the hyphen": ("4: 0_1", "4: 0+1", "4: 0\u20131", "4: 0,1"),
    "comma put in": ("4: 0-1, 1-3", "4: 0-1,1-3"),
    "no space": ("4:0-1", "4: 0-11-3"),
    "doubled space": ("4:  0-1", "4: 0-1  1-3"),
    "space put in": ("4: 0 -1", "4: 0- 1", "4: 0 - 1"),
    "space at the front": (" 4:", " 4: 0-1"),
    "space at the end": ("4: ", "1: ", "4: 0-1 ", "4: 0-1 1-3 "),
    "other blank": ("4:\t0-1", "4:\n0-1", "4: 0-1\n1-3", "4:\u00a00-1", "4:\n", "4: 0-1\n", "\n4: 0-1"),
    "leading zero": ("04:", "04: 0-1", "4: 00-1", "4: 0-01", "4: 0-1 01-3"),
    "no plain digit": ("\u0664:", "\uff14: 0-1", "\u00b2:", "4: \u0660-1", "4: 0-\uff11", "4: 0-\u00b9"),
    "letter": ("a:", "4: a-b", "4: 0-b", "x", "4:abcd"),
    "nodes exchanged": ("4: 1-0", "4: 0-1 3-1"),
    "node with itself": ("4: 0-0", "4: 0-1 1-1", "1: 0-0"),
    "node that is not there": ("1: 0-1", "4: 0-4", "4: 3-4", "4: 4-5", "8: 0-8", "8: 7-8", "8: 0-9", "4: 0-10"),
    "edge twice": ("4: 0-1 0-1", "4: 0-1 1-3 1-3", "4: 0-1 1-3 0-1"),
    "wrong order": ("4: 1-3 0-1", "4: 0-2 0-1", "4: 0-3 1-3 1-2"),
    "unfinished edge": ("4: 0", "4: 0-", "4: -1", "4: 0-1 1", "4: 0-1 1-"),
    "more edges joined on": ("4: 0-1-3", "4: 0-1 1-3-2"),
    "words in brackets": ("(4: 0-1)", "4: (0-1)", "(4, ())"),
}


def is_text(text):
    """Whether a text is the text of a graph, by a pattern instead of a reader."""
    if not re.fullmatch("[1-8]:( [0-7]-[0-7])*", text):
        return False
    edges = re.findall("([0-7])-([0-7])", text[2:])
    return edges == sorted(set(edges)) and all(first < second < text[0] for first, second in edges)


def one_place_changed(text, signs):
    """All texts in which one sign was left out, put in or changed."""
    for at in range(len(text) + 1):
        yield text[:at] + text[at + 1:]
        for sign in signs:
            yield text[:at] + sign + text[at:]
            yield text[:at] + sign + text[at + 1:]


class TestTexts(unittest.TestCase):
    def test_texts_and_graphs(self):
        for text, graph in TEXTS:
            with self.subTest(text=text):
                self.assertEqual(read_graph(text), graph)
                self.assertEqual(write_graph(graph), text)

    def test_all_edges(self):
        graph = (8, tuple(every_pair(8)))
        text = write_graph(graph)
        self.assertEqual(len(text), 2 + 4 * 28)
        self.assertTrue(text.startswith("8: 0-1 0-2 0-3"))
        self.assertTrue(text.endswith(" 5-6 5-7 6-7"))
        self.assertEqual(read_graph(text), graph)

    def test_every_graph_comes_back(self):
        for graph in every_small_graph(4):
            self.assertEqual(read_graph(write_graph(graph)), graph)
        for count in range(5, 9):
            for graph in ((count, ()), (count, tuple(every_pair(count)))):
                self.assertEqual(read_graph(write_graph(graph)), graph)

    def test_kinds_of_values(self):
        count, edges = graph = read_graph("4: 0-1 1-3")
        self.assertIs(type(graph), tuple)
        self.assertIs(type(count), int)
        self.assertIs(type(edges), tuple)
        for edge in edges:
            self.assertEqual([type(edge)] + [type(node) for node in edge], [tuple, int, int])
        self.assertIs(type(write_graph(graph)), str)

    def test_bad_texts(self):
        for why, texts in BAD_TEXTS.items():
            for text in texts:
                with self.subTest(why=why, text=text):
                    self.assertRaises(BadText, read_graph, text)

    def test_one_place_changed(self):
        for text in ("1:", "4: 0-1 1-3", "8: 0-7 1-2 6-7"):
            for other in one_place_changed(text, "0123456789:- \n+a\u0661"):
                with self.subTest(text=other):
                    if is_text(other):
                        self.assertEqual(write_graph(read_graph(other)), other)
                    else:
                        self.assertRaises(BadText, read_graph, other)

    def test_text_beyond_the_limit(self):
        # Point 2 limits the nodes; only reading has an error for what is beyond.
        self.assertEqual(write_graph((11, ((0, 10), (9, 10)))), "11: 0-10 9-10")
        self.assertRaises(BadText, read_graph, "11: 0-10 9-10")


class TestParts(unittest.TestCase):
    def test_example_of_the_document(self):
        self.assertEqual(parts(read_graph("5: 0-1 1-2 3-4"), (1,)), ((0,), (2,), (3, 4)))

    def test_parts_by_their_least_nodes(self):
        graph = read_graph("6: 0-5 1-3 2-4")
        self.assertEqual(parts(graph, ()), ((0, 5), (1, 3), (2, 4)))
        self.assertEqual(parts(graph, (0,)), ((1, 3), (2, 4), (5,)))
        self.assertEqual(parts(graph, (0, 1, 2)), ((3,), (4,), (5,)))
        self.assertEqual(parts(graph, (0, 1, 2, 3, 4, 5)), ())

    def test_one_node(self):
        self.assertEqual(parts((1, ()), ()), ((0,),))
        self.assertEqual(parts((1, ()), (0,)), ())

    def test_edges_outside_do_not_join(self):
        ring = read_graph("5: 0-1 0-4 1-2 2-3 3-4")
        self.assertEqual(parts(ring, ()), ((0, 1, 2, 3, 4),))
        self.assertEqual(parts(ring, (2,)), ((0, 1, 3, 4),))
        self.assertEqual(parts(ring, (0, 2)), ((1,), (3, 4)))

    def test_all_small_graphs(self):
        for graph in every_small_graph(4):
            for gone in every_set(graph[0]):
                self.assertEqual(parts(graph, gone), plain_parts(graph, gone), (graph, gone))

    def test_larger_graphs(self):
        chance = random.Random(4)
        for count in range(5, 13):
            for _ in range(40):
                graph, gone = some_graph(chance, count), some_set(chance, count, count)
                self.assertEqual(parts(graph, gone), plain_parts(graph, gone), (graph, gone))


class TestBorder(unittest.TestCase):
    def test_path(self):
        path = read_graph("5: 0-1 1-2 2-3 3-4")
        self.assertEqual(border(path, ()), ())
        self.assertEqual(border(path, (0, 1, 2, 3, 4)), ())
        self.assertEqual(border(path, (0, 1, 2)), (2,))
        self.assertEqual(border(path, (1, 2, 3)), (1, 3))
        self.assertEqual(border(path, (0, 2)), (0, 2))

    def test_whole_parts_have_no_border(self):
        graph = read_graph("5: 0-1 1-2 3-4")
        self.assertEqual(border(graph, (0, 1, 2)), ())
        self.assertEqual(border(graph, (0, 1, 3, 4)), (1,))
        self.assertEqual(border((1, ()), (0,)), ())

    def test_all_small_graphs(self):
        for graph in every_small_graph(4):
            for nodes in every_set(graph[0]):
                self.assertEqual(border(graph, nodes), plain_border(graph, nodes), (graph, nodes))

    def test_larger_graphs(self):
        chance = random.Random(5)
        for count in range(5, 13):
            for _ in range(40):
                graph, nodes = some_graph(chance, count), some_set(chance, count, count)
                self.assertEqual(border(graph, nodes), plain_border(graph, nodes), (graph, nodes))


class TestSets(unittest.TestCase):
    def test_sets_are_ascending_tuples(self):
        for graph in every_graph(4):
            for nodes in every_set(4):
                found = parts(graph, nodes)
                self.assertIs(type(found), tuple)
                for one in found + (border(graph, nodes),):
                    self.assertIs(type(one), tuple)
                    self.assertEqual(one, tuple(sorted(set(one))))


if __name__ == "__main__":
    unittest.main()
