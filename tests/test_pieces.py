import random
import time
import unittest
from itertools import product

from havenorhunt.meaning import holds, holds_in
from havenorhunt.pieces import alike, answer, glue
from havenorhunt.sentences import read_sentence
from tests.plain import every_graph, every_pair, every_set, every_small_graph, some_set
from tests.plain_pieces import every_piece, plain_glue, renumbered_piece, second_wins, some_piece
from tests.plain_sentences import some_sentence, tried

ONE = ((1, ()), ())
TWO = ((2, ()), ())
EDGE = ((2, ((0, 1),)), ())
PATH3 = (3, ((0, 1), (1, 2)))
PATH4 = (4, ((0, 1), (1, 2), (2, 3)))
STAR4 = (4, ((0, 1), (0, 2), (0, 3)))
RING4 = (4, ((0, 1), (0, 3), (1, 2), (2, 3)))


def bare(count, border=()):
    return ((count, ()), border)


def some_conjunctions(places):
    """All sentences that some set does this and does not do that, each fact asked, not asked, or asked not to be."""
    facts = [("joined", "x", "x"), ("single", "x"), ("empty", "x")] + [("at", place, "x") for place in range(places)]
    for asked in product((None, True, False), repeat=len(facts)):
        sentence = ("within", "x", "x")
        for fact, wanted in zip(facts, asked):
            if wanted is not None:
                sentence = ("and", sentence, fact if wanted else ("not", fact))
        yield ("some", "x", sentence)


class TestAlike(unittest.TestCase):
    def assert_alike(self, first, second, depths):
        """The depths at which two pieces are alike."""
        for depth in (0, 1, 2):
            self.assertIs(alike(first, second, depth), depth in depths, (first, second, depth))
            self.assertIs(alike(second, first, depth), depth in depths, (first, second, depth))

    def test_by_hand(self):
        self.assert_alike(ONE, ONE, (0, 1, 2))
        # One node has no set that is neither empty nor single; two and more nodes have.
        self.assert_alike(ONE, TWO, (0,))
        self.assert_alike(TWO, bare(3), (0, 1))
        # With two sets: one node in the first, and of the others neither none nor one nor two alone.
        self.assert_alike(bare(3), bare(4), (0, 1))
        self.assert_alike(bare(4), bare(5), (0, 1, 2))
        self.assert_alike(TWO, EDGE, (0,))
        self.assert_alike(ONE, EDGE, (0,))
        self.assert_alike((PATH4, ()), (STAR4, ()), (0, 1))
        # The set that joins two of its nodes and is no single one can have a third node without an edge, or not.
        self.assert_alike((PATH3, ()), ((3, ((0, 1),)), ()), (0, 1))

    def test_depth_nought(self):
        for first, second in ((ONE, EDGE), (bare(1, (0,)), (PATH3, (1,))), (bare(3, (0, 1, 2)), (RING4, (3, 1, 0)))):
            self.assertIs(alike(first, second, 0), True)

    def test_the_same_piece_under_other_numbers(self):
        chance = random.Random(34)
        for count in range(4):
            for _ in range(40):
                piece = some_piece(chance, 1, 5, count)
                self.assert_alike(piece, piece, (0, 1, 2))
                self.assert_alike(piece, renumbered_piece(chance, piece), (0, 1, 2))

    def test_an_edge_more_or_less(self):
        self.assert_alike(((3, ((0, 1),)), ()), bare(3), (0,))
        self.assert_alike((RING4, ()), ((4, RING4[1] + ((1, 3),)), ()), (0, 1))
        self.assert_alike(((2, ((0, 1),)), (0, 1)), bare(2, (0, 1)), (0,))
        self.assert_alike((PATH3, (0,)), ((3, ((0, 1),)), (0,)), (0,))
        self.assert_alike((PATH3, (0,)), ((3, ((1, 2),)), (0,)), (0, 1))
        self.assert_alike((PATH4, (1,)), ((4, ((0, 1), (1, 3))), (1,)), (0,))
        full = (5, tuple(every_pair(5)))
        self.assert_alike((full, ()), ((5, full[1][1:]), ()), (0,))
        self.assert_alike(((5, full[1][1:]), ()), ((5, full[1][2:]), ()), (0, 1))

    def test_isolated_nodes_more(self):
        self.assert_alike(((2, ((0, 1),)), ()), ((3, ((0, 1),)), ()), (0,))
        self.assert_alike(((3, ((0, 1),)), ()), ((4, ((0, 1),)), ()), (0, 1))
        self.assert_alike(((4, ((0, 1),)), ()), ((5, ((0, 1),)), ()), (0, 1))
        self.assert_alike(bare(2, (0,)), bare(3, (0,)), (0,))
        self.assert_alike(bare(3, (0,)), bare(4, (0,)), (0, 1))
        self.assert_alike(bare(4, (2,)), bare(5, (0,)), (0, 1))

    def test_borders(self):
        # A border that ends in a node with an edge or in one without.
        piece = (3, ((0, 1),))
        self.assert_alike((piece, (0,)), (piece, (1,)), (0, 1, 2))
        self.assert_alike((piece, (0,)), (piece, (2,)), (0,))
        self.assert_alike((PATH3, (0,)), (PATH3, (2,)), (0, 1, 2))
        self.assert_alike((PATH3, (0,)), (PATH3, (1,)), (0,))
        self.assert_alike((PATH3, (0, 2)), (PATH3, (2, 0)), (0, 1, 2))
        self.assert_alike((PATH3, (0, 1)), (PATH3, (1, 0)), (0,))
        self.assert_alike((PATH3, (0, 1, 2)), (PATH3, (2, 1, 0)), (0, 1, 2))
        self.assert_alike((PATH3, (0, 1, 2)), (PATH3, (0, 2, 1)), (0,))
        self.assert_alike((PATH4, (0, 1, 2)), (PATH4, (3, 2, 1)), (0, 1, 2))
        self.assert_alike((STAR4, (1, 2, 3)), (STAR4, (3, 1, 2)), (0, 1, 2))
        self.assert_alike((STAR4, (0, 2, 3)), (STAR4, (3, 0, 2)), (0,))

    def test_as_the_game_is_won(self):
        """All pairs of small pieces at depth 0 and 1, many at depth 2."""
        chance = random.Random(35)
        for count in range(4):
            pieces = every_piece(3, count)
            told = {True: 0, False: 0}
            pairs = list(product(pieces, repeat=2))
            for first, second in chance.sample(pairs, min(len(pairs), 600)):
                for depth in (0, 1):
                    found = second_wins(first, second, (), (), depth)
                    self.assertIs(alike(first, second, depth), found, (first, second, depth))
                    told[found] += 1
            self.assertTrue(min(told.values()) > 10, told)
            told = {True: 0, False: 0}
            for first, second in chance.sample(pairs, min(len(pairs), 120)):
                if alike(first, second, 1) or chance.random() < 0.2:
                    found = second_wins(first, second, (), (), 2)
                    self.assertIs(alike(first, second, 2), found, (first, second))
                    told[found] += 1
            self.assertTrue(min(told.values()) > 2, told)

    def test_greater_pieces_as_the_game_is_won(self):
        chance = random.Random(36)
        for first, second in ((bare(4), bare(3)), (bare(4), ((4, ((0, 3),)), ())), (bare(4, (0,)), bare(4, (3,)))):
            self.assertIs(alike(first, second, 2), second_wins(first, second, (), (), 2))
        for _ in range(60):
            count = chance.randint(0, 3)
            first, second = some_piece(chance, 4, 6, count), some_piece(chance, 4, 6, count)
            self.assertIs(alike(first, second, 1), second_wins(first, second, (), (), 1), (first, second))

    def test_as_all_sentences_of_rank_one_hold(self):
        """With one name, each sentence of rank 1 is made of those that some set does this and not that."""
        chance = random.Random(37)
        for count in range(4):
            sentences = list(some_conjunctions(count))
            pieces = [some_piece(chance, 1, 6, count) for _ in range(24)]
            told = [tuple(holds_in(piece, sentence, ()) for sentence in sentences) for piece in pieces]
            for one, two in product(range(len(pieces)), repeat=2):
                self.assertIs(alike(pieces[one], pieces[two], 1), told[one] == told[two], (pieces[one], pieces[two]))

    def test_sentences_of_rank_two_hold_in_both_or_in_none(self):
        chance = random.Random(38)
        pairs = 0
        for count in range(4):
            pieces = [some_piece(chance, 3, 5, count) for _ in range(30)]
            pieces += [bare(4, tuple(range(count))), bare(5, (3, 4, 2)[:count])]
            for first, second in product(pieces, repeat=2):
                if first < second and alike(first, second, 2):
                    pairs += 1
                    for _ in range(20):
                        sentence = some_sentence(chance, "", 2, 4, count)
                        found = holds_in(first, sentence, ()), holds_in(second, sentence, ())
                        self.assertEqual(found[0], found[1], (first, second, sentence))
        self.assertGreater(pairs, 30)


class TestAnswer(unittest.TestCase):
    def assert_answer(self, first, second, picks, picked, depth):
        """Tell whether there is an answer; what is returned keeps the game won, and None stands where nothing does."""
        found = answer(first, second, picks, picked, depth)
        where = (first, second, picks, picked, depth)
        ours = tuple(frozenset(pick[0]) for pick in picks) + (frozenset(picked),)
        theirs = tuple(frozenset(pick[1]) for pick in picks)
        if found is None:
            for other in every_set(second[0][0]):
                self.assertFalse(second_wins(first, second, ours, theirs + (frozenset(other),), depth), where)
            return False
        self.assertEqual(found, tuple(sorted(set(found))), where)
        self.assertIn(found, every_set(second[0][0]), where)
        self.assertTrue(second_wins(first, second, ours, theirs + (frozenset(found),), depth), where)
        return True

    def test_by_hand(self):
        self.assertEqual(answer(ONE, ONE, (), (0,), 0), (0,))
        self.assertEqual(answer(ONE, TWO, (), (), 0), ())
        self.assertIn(answer(ONE, TWO, (), (0,), 0), ((0,), (1,)))
        self.assertIs(answer(TWO, ONE, (), (0, 1), 0), None)
        self.assertIn(answer(bare(3), TWO, (), (0, 2), 0), ((0, 1),))
        # Then the first player would pick the node that is not in the set.
        self.assertIs(answer(bare(3), TWO, (), (0, 2), 1), None)
        self.assertEqual(answer((PATH3, (0,)), (PATH3, (2,)), (), (0, 1), 1), (1, 2))
        self.assertIs(answer((PATH3, (0,)), ((3, ()), (2,)), (), (0, 1), 0), None)
        self.assertEqual(answer((PATH3, (0, 2)), (PATH3, (2, 1)), (), (0,), 0), (2,))

    def test_behind_one_pick(self):
        picks = (((0,), (2,)),)
        self.assertEqual(answer((PATH3, ()), (PATH3, ()), picks, (0, 1), 0), (1, 2))
        self.assertEqual(answer((PATH3, ()), (PATH3, ()), picks, (0,), 0), (2,))
        self.assertEqual(answer((PATH3, ()), (PATH3, ()), picks, (1,), 0), (1,))
        self.assertEqual(answer((PATH3, ()), (PATH3, ()), picks, (2,), 0), (0,))
        # The node in the middle has no node to which it is not joined.
        self.assertIs(answer((PATH3, ()), (PATH3, ()), (((0,), (1,)),), (2,), 0), None)

    def test_lost_already(self):
        for picks, picked in (
            ((((0,), ()),), ()), ((((0,), (0, 1)),), (1,)), ((((0, 1), (0, 2)),), ()), ((((), (1,)),), (0,)),
        ):
            self.assertIs(answer((PATH3, ()), (PATH3, ()), picks, picked, 0), None)
        self.assertIs(answer((PATH3, (0,)), (PATH3, (2,)), (((0,), (0,)),), (), 0), None)
        self.assertEqual(answer((PATH3, (0,)), (PATH3, (2,)), (((0,), (2,)),), (), 0), ())
        two = (((0,), (0,)), ((1,), (2,)))
        self.assertIs(answer((PATH3, ()), (PATH3, ()), two, (), 0), None)
        two = (((0,), (0,)), ((1,), (1,)))
        self.assertEqual(answer((PATH3, ()), (PATH3, ()), two, (0, 1), 0), (0, 1))

    def test_small_pieces(self):
        chance = random.Random(39)
        told = {True: 0, False: 0}
        for count in range(4):
            pieces = every_piece(3, count)
            for _ in range(70):
                first, second = chance.choice(pieces), chance.choice(pieces)
                picked = some_set(chance, first[0][0], 3)
                for depth in (0, 1):
                    told[self.assert_answer(first, second, (), picked, depth)] += 1
                other = some_set(chance, second[0][0], 3)
                told[self.assert_answer(first, second, ((picked, other),), some_set(chance, first[0][0], 3), 0)] += 1
        self.assertTrue(min(told.values()) > 100, told)

    def test_answers_go_on_as_long_as_pieces_are_alike(self):
        """Whoever answers as told wins, wherever the first player picks in pieces that are alike."""
        chance = random.Random(40)
        for count in range(3):
            for _ in range(15):
                first = some_piece(chance, 2, 5, count)
                second = renumbered_piece(chance, first)
                if chance.random() < 0.3:
                    first, second = bare(4, tuple(range(count))), bare(5, tuple(range(count)))
                one = some_set(chance, first[0][0], 5)
                two = answer(first, second, (), one, 1)
                if alike(first, second, 2):
                    self.assertIsNot(two, None, (first, second, one))
                if two is not None:
                    for picked in every_set(first[0][0]):
                        self.assertTrue(self.assert_answer(first, second, ((one, two),), picked, 0))
                    for picked in every_set(second[0][0]):
                        self.assertTrue(self.assert_answer(second, first, ((two, one),), picked, 0))

    def test_as_large_as_allowed(self):
        start = time.process_time()
        chance = random.Random(41)
        for count in range(4):
            first = some_piece(chance, 8, 8, count)
            others = [some_piece(chance, least, 8, count) for least in (7, 8)]
            for second in [renumbered_piece(chance, first)] + others:
                picked = some_set(chance, 8, 8)
                found = answer(first, second, (), picked, 1)
                if found is not None:
                    for then in (some_set(chance, 8, 8) for _ in range(5)):
                        self.assertTrue(self.assert_answer(first, second, ((picked, found),), then, 0))
                self.assertIs(answer(first, first, (), picked, 1) is None, False)
                alike(first, second, 1)
        full = tuple(every_pair(5))
        for at in range(10):
            other = full[:at] + full[at + 1:]
            self.assertIs(alike(((5, full), ()), ((5, other), ()), 2), False)
            self.assertIs(alike(((5, full), (0, 1)), ((5, full), (at // 2, (at // 2 + 1) % 5)), 2), True)
        self.assertIs(answer(((8, ()), ()), ((8, ((0, 1),)), ()), (), (0, 1, 2), 1), None)
        # A set of two nodes has no two nodes that are not all of it; more than three are as good as three.
        for picked in ((3, 4), (3, 4, 5), (0, 1, 2, 3, 4, 5), tuple(range(8))):
            found = answer(((8, ()), ()), ((8, ()), ()), (), picked, 1)
            self.assertEqual(min(3, len(found)), min(3, len(picked)))
            self.assertEqual(len(found) == 8, len(picked) == 8)
        self.assertLess(time.process_time() - start, 30)


class TestGlue(unittest.TestCase):
    def test_by_hand(self):
        self.assertEqual(glue(ONE, ONE), (2, ()))
        self.assertEqual(glue(EDGE, (PATH3, ())), (5, ((0, 1), (2, 3), (3, 4))))
        # The border of the first piece comes first, in its order.
        self.assertEqual(glue((PATH3, (2,)), ONE[:1] + ((0,),)), (3, ((0, 2), (1, 2))))
        self.assertEqual(glue((PATH3, (1,)), ((2, ((0, 1),)), (1,))), (4, ((0, 1), (0, 2), (0, 3))))
        self.assertEqual(glue((PATH3, (2, 0)), (PATH3, (0, 2))), (4, ((0, 2), (0, 3), (1, 2), (1, 3))))
        self.assertEqual(glue((PATH4, (3, 1)), (PATH3, (0, 1))), (5, ((0, 1), (0, 3), (1, 2), (1, 3), (1, 4))))
        self.assertEqual(glue((PATH4, (3, 1)), (PATH3, (1, 0))), (5, ((0, 1), (0, 3), (0, 4), (1, 2), (1, 3))))

    def test_an_edge_in_both_pieces(self):
        edge = (2, ((0, 1),))
        self.assertEqual(glue((edge, (0, 1)), (edge, (0, 1))), edge)
        self.assertEqual(glue((edge, (0, 1)), (edge, (1, 0))), edge)
        self.assertEqual(glue(((2, ()), (0, 1)), (edge, (1, 0))), edge)
        self.assertEqual(glue((edge, (1, 0)), ((2, ()), (1, 0))), edge)
        self.assertEqual(glue((PATH3, (0, 1)), (PATH3, (1, 2))), (4, ((0, 1), (0, 3), (1, 2))))

    def test_border_alone(self):
        for count in (1, 2, 3):
            nodes = tuple(range(count))
            for graph in every_graph(count):
                for border in ((0, 1, 2)[:count], (2, 0, 1)[3 - count:] if count == 3 else nodes[::-1]):
                    first, second = bare(count, nodes), (graph, border)
                    self.assertEqual(glue(first, second), plain_glue(first, second))
                    self.assertEqual(glue(second, first), plain_glue(second, first))
        self.assertEqual(glue(((3, ((0, 1),)), (0, 1, 2)), ((3, ((0, 1),)), (2, 1, 0))), (3, ((0, 1), (1, 2))))

    def test_small_pieces(self):
        chance = random.Random(42)
        for count in range(4):
            pieces = every_piece(3, count)
            pairs = list(product(pieces, repeat=2))
            for first, second in chance.sample(pairs, min(400, len(pairs))):
                self.assertEqual(glue(first, second), plain_glue(first, second), (first, second))

    def test_greater_pieces(self):
        chance = random.Random(43)
        for _ in range(400):
            count = chance.randint(0, 3)
            first = some_piece(chance, count, 6, count)
            second = some_piece(chance, count, 8 - first[0][0] + count, count)
            found = glue(first, second)
            self.assertEqual(found, plain_glue(first, second), (first, second))
            self.assertLessEqual(found[0], 8)
            self.assertEqual(found[1], tuple(sorted(set(found[1]))))

    def test_alike_pieces_stay_alike(self):
        chance = random.Random(44)
        told = {1: 0, 2: 0}
        for count in range(4):
            pieces = [some_piece(chance, count, 4, count) for _ in range(40)]
            for first, second in product(pieces, repeat=2):
                if first >= second or not alike(first, second, 1):
                    continue
                for depth in (1, 2):
                    third = some_piece(chance, count, min(3, 1 + count) if depth == 2 else 4, count)
                    if alike(first, second, depth) and told[depth] < 300:
                        told[depth] += 1
                        one, two = (glue(first, third), ()), (glue(second, third), ())
                        self.assertIs(alike(one, two, depth), True, (first, second, third))
                        one, two = (glue(third, first), ()), (glue(third, second), ())
                        self.assertIs(alike(one, two, depth), True, (first, second, third))
        self.assertTrue(min(told.values()) > 100, told)

    def test_a_sentence_about_what_is_glued(self):
        """A ring comes from two ways that are glued at both ends."""
        sentence = read_sentence("some x and not empty x each y or not and single y within y x joined x y")
        self.assertIs(holds(glue((PATH3, (0, 2)), (PATH3, (2, 0))), sentence, ()), True)
        for graph in every_small_graph(3):
            for other in every_small_graph(2):
                glued = glue((graph, (0,)), (other, (0,)))
                self.assertIs(holds(glued, sentence, ()), tried((glued, ()), sentence, {}))


if __name__ == "__main__":
    unittest.main()
