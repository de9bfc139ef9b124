import random
import time
import unittest
from itertools import product

from havenorhunt.meaning import holds_in
from havenorhunt.parting import parting
from havenorhunt.pieces import alike
from havenorhunt.sentences import free_names, rank, write_sentence
from tests.plain import every_graph, every_pair
from tests.plain_pieces import every_piece, pieces_of, renumbered_piece, second_wins, some_piece
from tests.plain_sentences import plain_free, plain_rank, plain_read, plain_write, tried, words_around

ONE = ((1, ()), ())
TWO = ((2, ()), ())
PATH3 = (3, ((0, 1), (1, 2)))
PATH4 = (4, ((0, 1), (1, 2), (2, 3)))


def bare(count, border=()):
    return ((count, ()), border)


class TestParting(unittest.TestCase):
    def assert_parting(self, first, second, depth, slowly=True):
        """What parting returns is as point 35 asks; tell whether it is a sentence."""
        where = (first, second, depth)
        sentence = parting(first, second, depth)
        self.assertIs(sentence is None, alike(first, second, depth), where)
        if sentence is None:
            return False
        text = plain_write(sentence)
        self.assertEqual(plain_free(sentence), set(), where)
        self.assertLessEqual(plain_rank(sentence), depth, where)
        self.assertLessEqual(len(text.split(" ")), 20000, where)
        self.assertLessEqual(words_around(sentence), 200, where)
        self.assertEqual(plain_read(text), sentence, where)
        self.assertEqual((free_names(sentence), rank(sentence)), ((), plain_rank(sentence)))
        self.assertEqual(write_sentence(sentence), text)
        self.assertIs(holds_in(first, sentence, ()), True, where)
        self.assertIs(holds_in(second, sentence, ()), False, where)
        if slowly:
            self.assertIs(tried(first, sentence, {}), True, where)
            self.assertIs(tried(second, sentence, {}), False, where)
        return True

    def assert_depth(self, first, second, least):
        """Two pieces are parted from a depth on, or never up to 2, whichever of them is the first one."""
        for depth in (0, 1, 2):
            for one, two in ((first, second), (second, first)):
                parted = self.assert_parting(one, two, depth)
                self.assertIs(parted, least is not None and depth >= least, (one, two, depth))

    def test_depth_nought(self):
        for first, second in ((ONE, TWO), (bare(1, (0,)), (PATH3, (1,))), (bare(3), (PATH3, ()))):
            self.assertIs(parting(first, second, 0), None)

    def test_the_same_piece(self):
        chance = random.Random(1)
        for count in range(4):
            for _ in range(20):
                piece = some_piece(chance, 1, 5, count)
                self.assert_depth(piece, piece, None)
                self.assert_depth(piece, renumbered_piece(chance, piece), None)

    def test_a_count_of_nodes(self):
        self.assert_depth(ONE, TWO, 1)
        self.assert_depth(TWO, bare(3), 2)
        self.assert_depth(bare(3), bare(4), 2)
        self.assert_depth(bare(4), bare(5), None)
        self.assert_depth(bare(3, (0,)), bare(4, (3,)), 2)
        self.assert_depth(bare(3, (0, 1, 2)), bare(4, (0, 1, 2)), 1)

    def test_an_edge(self):
        self.assert_depth(TWO, ((2, ((0, 1),)), ()), 1)
        self.assert_depth((PATH3, ()), ((3, ((0, 1),)), ()), 2)
        self.assert_depth((PATH4, (0, 3)), ((4, PATH4[1][1:]), (0, 3)), 2)
        full = tuple(every_pair(5))
        for at in range(1, 10):
            self.assert_depth(((5, full), ()), ((5, full[:at] + full[at + 1:]), ()), 1)
            self.assert_depth(((5, full[1:]), ()), ((5, full[1:at] + full[at + 1:]), ()), 2)

    def test_a_place_of_the_border(self):
        self.assert_depth((PATH3, (0,)), (PATH3, (1,)), 1)
        self.assert_depth((PATH3, (0,)), (PATH3, (2,)), None)
        self.assert_depth((PATH3, (0, 1)), (PATH3, (1, 0)), 1)
        self.assert_depth((PATH3, (0, 1, 2)), (PATH3, (0, 2, 1)), 1)
        self.assert_depth((PATH4, (0, 3)), (PATH4, (3, 0)), None)
        self.assert_depth((PATH4, (1, 2, 3)), (PATH4, (1, 3, 2)), 1)
        self.assert_depth((PATH4, (0, 2, 3)), (PATH4, (3, 1, 0)), None)

    def test_all_pairs_of_small_pieces(self):
        chance = random.Random(35)
        for count in range(4):
            told = {True: 0, False: 0}
            pairs = list(product(every_piece(3, count), repeat=2))
            for first, second in chance.sample(pairs, min(len(pairs), 700)):
                for depth in (0, 1, 2):
                    told[self.assert_parting(first, second, depth)] += 1
            self.assertTrue(min(told.values()) > 20, told)

    def test_none_just_if_the_second_player_wins(self):
        chance = random.Random(53)
        for count in range(4):
            pairs = list(product(every_piece(3, count), repeat=2))
            for first, second in chance.sample(pairs, min(len(pairs), 60)):
                for depth in (1, 2):
                    found = parting(first, second, depth) is None
                    self.assertIs(found, second_wins(first, second, (), (), depth), (first, second, depth))

    def test_pieces_that_only_two_names_part(self):
        chance = random.Random(54)
        told = 0
        for count in range(4):
            pieces = [piece for graph in every_graph(4) for piece in pieces_of(graph, count)]
            pieces = chance.sample(pieces, min(60, len(pieces)))
            for first, second in product(pieces, repeat=2):
                if first >= second or told >= 100 * (count + 1):
                    continue
                if alike(first, second, 1) and not alike(first, second, 2):
                    told += self.assert_parting(first, second, 2)
                    self.assert_parting(second, first, 2)
        self.assertGreater(told, 100)

    def test_five_nodes_at_depth_two(self):
        chance = random.Random(55)
        told = {True: 0, False: 0}
        start = time.process_time()
        for count in range(4):
            for _ in range(60):
                first = some_piece(chance, 4, 5, count)
                second = some_piece(chance, 4, 5, count)
                told[self.assert_parting(first, second, 2, slowly=False)] += 1
        self.assertGreater(told[True], 100)
        self.assertLess(time.process_time() - start, 30)

    def test_eight_nodes_at_depth_one(self):
        chance = random.Random(56)
        told = {True: 0, False: 0}
        for count in range(4):
            for _ in range(25):
                first, second = some_piece(chance, 7, 8, count), some_piece(chance, 7, 8, count)
                told[self.assert_parting(first, second, 1)] += 1
                told[self.assert_parting(first, renumbered_piece(chance, first), 1)] += 1
        self.assertTrue(min(told.values()) > 20, told)

    def test_somewhat_beyond(self):
        chance = random.Random(57)
        for count in range(4):
            for _ in range(4):
                first, second = some_piece(chance, 6, 7, count), some_piece(chance, 6, 7, count)
                self.assert_parting(first, second, 2, slowly=False)
        self.assert_parting(bare(4), bare(5), 3)
        self.assert_parting(bare(3), (PATH3, ()), 3)


if __name__ == "__main__":
    unittest.main()
