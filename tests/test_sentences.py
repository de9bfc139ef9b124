import random
import unittest

from havenorhunt.errors import BadText, GroundError
from havenorhunt.sentences import free_names, rank, read_sentence, write_sentence
from tests.plain_sentences import (
    BINDERS, JOINTS, WORDS, balanced, drawn_sentence, plain_free, plain_rank, plain_read, plain_write, some_sentence,
    words_around, words_of,
)

E = ("empty", "x")
EACH_WORD = {
    "within x y": ("within", "x", "y"),
    "joined x y": ("joined", "x", "y"),
    "single x": ("single", "x"),
    "empty x": ("empty", "x"),
    "at 0 x": ("at", 0, "x"),
    "at 1 y": ("at", 1, "y"),
    "at 2 z": ("at", 2, "z"),
    "not empty x": ("not", E),
    "and empty x single y": ("and", E, ("single", "y")),
    "or empty x single y": ("or", E, ("single", "y")),
    "some x empty x": ("some", "x", E),
    "each a empty x": ("each", "a", E),
    "some x and single x joined x x": ("some", "x", ("and", ("single", "x"), ("joined", "x", "x"))),
    "each x or empty x joined x x": ("each", "x", ("or", E, ("joined", "x", "x"))),
    "and or not empty a single b within c d": (
        "and", ("or", ("not", ("empty", "a")), ("single", "b")), ("within", "c", "d"),
    ),
    "or some x each y not at 2 y and empty z empty z": (
        "or", ("some", "x", ("each", "y", ("not", ("at", 2, "y")))), ("and", ("empty", "z"), ("empty", "z")),
    ),
}

# A sentence with each word of point 23.
ALL_WORDS = (
    "some x each y and or within x y joined y x not or single x and empty y or at 0 x and at 1 y at 2 x"
)


def drawn(seed, many):
    chance = random.Random(seed)
    for _ in range(many):
        scope = "".join(chance.sample("abcxyz", chance.randint(0, 3)))
        yield some_sentence(chance, scope, chance.randint(0 if scope else 1, 4), chance.randint(0, 5), 3)


def chained(word, depth, inner):
    """A sentence with so many words around it."""
    for at in range(depth):
        if word in BINDERS:
            inner = (word, "abc"[at % 3], inner)
        else:
            inner = ("not", inner) if word == "not" else (word, E, inner)
    return inner


def long_sentence():
    """A sentence of 19999 words, 200 of them around one another."""
    chains = [chained("and", 189, ("within", "x", "y"))] * 34
    return ("each", "y", ("some", "x", balanced("or", chains + [E] * 194)))


class TestReadAndWrite(unittest.TestCase):
    def assert_read(self, text, sentence):
        found = read_sentence(text)
        self.assertEqual(found, sentence, text)
        self.assert_kinds(found)
        self.assertEqual(write_sentence(sentence), text)

    def assert_kinds(self, sentence):
        """Tuples of strings, tuples, and integers only where a place stands."""
        self.assertIs(type(sentence), tuple)
        for at, item in enumerate(sentence):
            if type(item) is tuple:
                self.assert_kinds(item)
            else:
                self.assertIs(type(item), int if sentence[0] == "at" and at == 1 else str)

    def assert_bad(self, text):
        with self.assertRaises(BadText, msg=repr(text)) as caught:
            read_sentence(text)
        self.assertIsInstance(caught.exception, GroundError)

    def test_each_word(self):
        for text, sentence in EACH_WORD.items():
            self.assert_read(text, sentence)

    def test_every_letter_and_place(self):
        for letter in "abcdefghijklmnopqrstuvwxyz":
            self.assert_read(f"single {letter}", ("single", letter))
            self.assert_read(f"within a {letter}", ("within", "a", letter))
            self.assert_read(f"each {letter} empty x", ("each", letter, E))
            for place in range(3):
                self.assert_read(f"at {place} {letter}", ("at", place, letter))

    def test_what_was_written_is_read_again(self):
        ranks = []
        for sentence in drawn(23, 600):
            text = plain_write(sentence)
            self.assert_read(text, sentence)
            self.assertEqual(plain_read(text), sentence)
            ranks.append(plain_rank(sentence))
        self.assertEqual(set(ranks), {0, 1, 2, 3, 4})

    def test_a_hundred_words_and_more(self):
        for sentence in (
            balanced("and", [("within", "x", "y")] * 25),
            chained("and", 32, E), chained("not", 98, E), chained("some", 49, E),
        ):
            self.assertLessEqual(words_of(sentence), 100)
            self.assert_read(plain_write(sentence), sentence)
        text = "not " * 249 + "at 2 x"
        self.assertLessEqual(len(text) - 2, 1000)
        self.assert_read(text, chained("not", 249, ("at", 2, "x")))
        self.assert_read("some a or empty x " * 60 + "empty z", plain_read("some a or empty x " * 60 + "empty z"))

    def test_the_empty_text(self):
        for text in ("", " ", "  ", "\n"):
            self.assert_bad(text)

    def test_a_word_alone(self):
        for word in WORDS + ("x", "0", "a", "2"):
            self.assert_bad(word)

    def test_one_word_changed(self):
        """A word left out, doubled, put in, exchanged with the next one or in place of another."""
        put = WORDS + ("a", "x", "0", "2")
        told = {True: 0, False: 0}
        for text in list(EACH_WORD) + [ALL_WORDS]:
            words = text.split(" ")
            changed = []
            for at in range(len(words)):
                front, back = words[:at], words[at + 1:]
                changed.append(front + back)
                changed.append(front + [words[at], words[at]] + back)
                changed.append(front + back[:1] + [words[at]] + back[1:])
                changed += [front + [word] + back for word in put]
                changed += [front + [word, words[at]] + back for word in put]
            changed += [words + [word] for word in put]
            for found in changed:
                self.assert_as_told(" ".join(found), told)
        self.assertTrue(told[True] > 100 and told[False] > 1000)

    def assert_as_told(self, text, told):
        sentence = plain_read(text)
        told[sentence is not None] += 1
        if sentence is None:
            self.assert_bad(text)
        else:
            self.assert_read(text, sentence)

    def test_a_word_left_out(self):
        for text in ("within x", "within y", "joined x", "at x", "at 0", "some empty x", "each x", "not", "and empty x",
                     "or single y", "some x", "x y", "0 x", "x", "some x and single x", "each x or joined x x"):
            self.assert_bad(text)

    def test_words_left_over(self):
        for text in EACH_WORD:
            for more in ("x", "0", "empty x", "empty", "not", "within x y", "and"):
                self.assert_bad(f"{text} {more}")
            for more in ("x", "0", "empty x", "within", "at 0 x"):
                self.assert_bad(f"{more} {text}")

    def test_a_word_misspelt(self):
        for word in WORDS:
            behind = {"at": "0 x", "not": "empty x", "and": "empty x empty x", "or": "empty x empty x"}
            rest = behind.get(word, "x empty x" if word in BINDERS else "x x" if word in ("within", "joined") else "x")
            self.assertEqual(read_sentence(f"{word} {rest}")[0], word)
            wrong = [word.upper(), word.title(), word + "s", "s" + word, word + ".", word[:-1] + "q", word[1:] + "q",
                     word + "\n", "\t" + word, word + "0", word[:-1] + "\u0435"]
            for other in wrong + ["exists", "all", "forall", "any", "in", "equal", "true", "false", "", "(", "-"]:
                self.assert_bad(f"{other} {rest}")

    def test_bad_names(self):
        wrong = ["X", "A", "Z", "xy", "xx", "0", "1", "_", "`", "{", "\u00e4", "\u0430", "\u017f", "", "x,", "-x",
                 "\uff41", "\x00", "\n", "x\n", "some", "not", "\ud800", "\u00aa", "1x"]
        for name in wrong:
            for text in ("single {}", "empty {}", "within {} x", "within x {}", "joined {} y", "joined y {}", "at 0 {}",
                         "some {} empty x", "each {} empty x"):
                self.assert_bad(text.format(name))

    def test_bad_places(self):
        for place in ("3", "4", "9", "-1", "+1", "00", "01", "10", "12", "x", "", "\u0661", "\u00b2", "\uff10", "1.0",
                      "0x0", " 0", "0\n", "one", "1_0"):
            self.assert_bad(f"at {place} x")

    def test_spaces_and_other_blanks(self):
        for text in list(EACH_WORD) + [ALL_WORDS]:
            for bad in (" " + text, text + " ", "\n" + text, text + "\n", text + "\t", text + "\x00"):
                self.assert_bad(bad)
            for at, sign in enumerate(text):
                if sign == " ":
                    for blank in ("  ", "\t", "\n", "\r", "\x0b", "\u00a0", "\u2003", "", "_", " \n", ","):
                        self.assert_bad(text[:at] + blank + text[at + 1:])

    def test_one_sign_changed(self):
        told = {True: 0, False: 0}
        signs = " 0129axzAnot\n-(\u00e9"
        for text in list(EACH_WORD) + [ALL_WORDS]:
            for at in range(len(text) + 1):
                self.assert_as_told(text[:at] + text[at + 1:], told)
                for sign in signs:
                    self.assert_as_told(text[:at] + sign + text[at:], told)
                    self.assert_as_told(text[:at] + sign + text[at + 1:], told)
        self.assertTrue(told[True] > 100 and told[False] > 1000)

    def test_any_other_string(self):
        chance = random.Random(25)
        told = {True: 0, False: 0}
        some = WORDS + ("x", "y", "0", "1", "q", "xx", "3", "")
        for _ in range(3000):
            self.assert_as_told(" ".join(chance.choice(some) for _ in range(chance.randint(1, 9))), told)
        for _ in range(1000):
            self.assert_as_told("".join(chance.choice("x y0notad \n") for _ in range(chance.randint(0, 1000))), told)
        for text in ("(empty x)", "('empty', 'x')", "empty(x)", "empty x.", "x empty", "x within y", "4: 0-1",
                     "x" * 1000, " " * 1000, "0" * 1000, "not " * 250, "empty " * 160 + "x", "x " * 499, "\ud800"):
            self.assert_bad(text)
        self.assertGreater(told[True], 5)

    def test_long_texts(self):
        sentence = long_sentence()
        self.assertEqual(words_of(sentence), len(write_sentence(sentence).split(" ")))
        self.assertEqual(write_sentence(sentence), plain_write(sentence))


class TestFreeNames(unittest.TestCase):
    def assert_free(self, text, names):
        self.assertEqual(free_names(read_sentence(text)), names, text)

    def test_facts(self):
        self.assert_free("within x y", ("x", "y"))
        self.assert_free("within y x", ("x", "y"))
        self.assert_free("joined x x", ("x",))
        self.assert_free("joined b a", ("a", "b"))
        self.assert_free("single q", ("q",))
        self.assert_free("empty z", ("z",))
        self.assert_free("at 0 x", ("x",))
        self.assert_free("at 2 b", ("b",))

    def test_each_once_and_ascending(self):
        self.assert_free("and within z a or joined a m not single z", ("a", "m", "z"))
        self.assert_free("and and single c single b single a", ("a", "b", "c"))
        self.assert_free("or empty x empty x", ("x",))

    def test_bound_names(self):
        self.assert_free("some x single x", ())
        self.assert_free("each x some y within x y", ())
        self.assert_free("some x within x y", ("y",))
        self.assert_free("each y within x y", ("x",))
        self.assert_free("some a empty x", ("x",))

    def test_inside_and_outside_of_its_binder(self):
        self.assert_free("and single x some x empty x", ("x",))
        self.assert_free("and some x empty x single x", ("x",))
        self.assert_free("or each x empty x each x single x", ())
        self.assert_free("some y and single x each x joined x y", ("x",))
        self.assert_free("and some x single y some y single x", ("x", "y"))
        self.assert_free("not and some x within x y empty y", ("y",))

    def test_bound_again_within(self):
        self.assert_free("some x some x single x", ())
        self.assert_free("some x and each x single x empty x", ())
        self.assert_free("some x and empty x each x within x y", ("y",))
        self.assert_free("and some x some x single x single x", ("x",))

    def test_drawn(self):
        counts = set()
        for sentence in drawn(24, 800):
            self.assertEqual(free_names(sentence), tuple(sorted(plain_free(sentence))), sentence)
            counts.add(len(free_names(sentence)))
        self.assertEqual(counts, {0, 1, 2, 3})

    def test_long_sentences(self):
        self.assertEqual(free_names(long_sentence()), ())
        self.assertEqual(free_names(long_sentence()[2]), ("y",))
        for word in JOINTS + BINDERS:
            for depth in (100, 200, 400):
                found = free_names(chained(word, depth, ("within", "a", "x")))
                self.assertEqual(found, ("x",) if word in BINDERS else ("a", "x"))


class TestRank(unittest.TestCase):
    def test_by_hand(self):
        for text, found in (
            ("single x", 0), ("at 0 x", 0), ("not and empty x or empty x empty x", 0), ("some x single x", 1),
            ("each x not single x", 1), ("and some x single x each y empty y", 1), ("some x each y within x y", 2),
            ("some x and each y within x y single x", 2), ("not not some x not not some x not empty x", 2),
            ("or some x empty x some x some x some x empty x", 3), ("some a empty x", 1),
            ("or some x some x some x empty x some x empty x", 3), ("each a some b each c some d joined a d", 4),
        ):
            self.assertEqual(rank(read_sentence(text)), found, text)

    def test_drawn(self):
        found = []
        for sentence in drawn(42, 800):
            self.assertEqual(rank(sentence), plain_rank(sentence), sentence)
            found.append(rank(sentence))
        self.assertEqual(set(found), {0, 1, 2, 3, 4})

    def test_long_sentences(self):
        self.assertEqual(rank(long_sentence()), 2)
        self.assertEqual(rank(chained("not", 400, ("some", "x", E))), 1)
        self.assertEqual(rank(chained("and", 200, chained("some", 4, E))), 4)
        self.assertEqual(rank(chained("some", 400, E)), 400)


class TestLongSentence(unittest.TestCase):
    def test_it_is_as_long_as_parting_may_return(self):
        """What the tests above take for a long sentence is one."""
        sentence = long_sentence()
        self.assertEqual(words_of(sentence), 19999)
        self.assertEqual(words_around(sentence), 200)

    def test_drawn_sentences_have_all_words(self):
        seen = {word for sentence in drawn(23, 600) for word in plain_write(sentence).split(" ")}
        self.assertLessEqual(set(WORDS), seen)
        self.assertIsInstance(drawn_sentence(random.Random(1), "x", 0, 0, 0), tuple)


if __name__ == "__main__":
    unittest.main()
