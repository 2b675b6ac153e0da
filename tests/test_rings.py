"""Points 1 and 3."""

import unittest

from beadrings.errors import BadWord
from beadrings.rings import are_one, is_ring, period, ring_of, turning_of
from tests.samples import LONG_WORDS, NOT_WORDS, WORDS, stepped, words_of


class RingOf(unittest.TestCase):
    def test_some(self):
        self.assertEqual(ring_of("a"), "a")
        self.assertEqual(ring_of("h"), "h")
        self.assertEqual(ring_of("cab"), "abc")
        self.assertEqual(ring_of("bab"), "abb")
        self.assertEqual(ring_of("baba"), "abab")
        self.assertEqual(ring_of("acab"), "abac")
        self.assertEqual(ring_of("b" * 30 + "a" * 30), "a" * 30 + "b" * 30)

    def test_least_of_all_turnings(self):
        for word in WORDS:
            with self.subTest(word=word):
                self.assertEqual(ring_of(word), min(stepped(word, by) for by in range(len(word))))

    def test_the_same_for_each_turning(self):
        for word in LONG_WORDS:
            for by in range(len(word)):
                self.assertEqual(ring_of(stepped(word, by)), ring_of(word))

    def test_bad_word(self):
        for at, thing in enumerate(NOT_WORDS):
            with self.subTest(at=at):
                with self.assertRaises(BadWord):
                    ring_of(thing)


class IsRing(unittest.TestCase):
    def test_some(self):
        for word in ("a", "h", "ab", "aa", "abab", "abac", "aabab", "a" * 60, "ab" * 30, "a" * 59 + "b"):
            self.assertIs(is_ring(word), True, word)
        for word in ("ba", "baba", "acab", "abaa", "b" + "a" * 59, "ba" * 30, "abb" + "aba"):
            self.assertIs(is_ring(word), False, word)

    def test_rings_are_the_least_turnings(self):
        for word in WORDS:
            with self.subTest(word=word):
                least = min(stepped(word, by) for by in range(len(word)))
                self.assertIs(is_ring(word), word == least)
                self.assertIs(is_ring(least), True)

    def test_what_is_no_word_is_no_ring(self):
        for at, thing in enumerate(NOT_WORDS):
            with self.subTest(at=at):
                self.assertIs(is_ring(thing), False)


class TwoWords(unittest.TestCase):
    def test_some(self):
        self.assertEqual(turning_of("abc", "abc"), 0)
        self.assertEqual(turning_of("abc", "bca"), 1)
        self.assertEqual(turning_of("abc", "cab"), 2)
        self.assertIs(turning_of("abc", "acb"), None)
        self.assertIs(turning_of("abc", "ab"), None)
        self.assertIs(turning_of("ab", "abab"), None)
        self.assertIs(turning_of("abab", "ab"), None)
        self.assertEqual(turning_of("abab", "baba"), 1)
        self.assertEqual(turning_of("a", "a"), 0)
        self.assertIs(turning_of("a", "b"), None)
        self.assertEqual(turning_of("a" * 60, "a" * 60), 0)
        self.assertEqual(turning_of("a" * 59 + "b", "b" + "a" * 59), 59)
        self.assertEqual(turning_of(other="ba", one="ab"), 1)
        self.assertIs(are_one(other="ba", one="ab"), True)

    def test_each_word_and_each_of_its_turnings(self):
        for word in WORDS:
            for by in range(len(word)):
                other = stepped(word, by)
                least = 0
                while stepped(word, least) != other:
                    least = least + 1
                self.assertEqual(turning_of(word, other), least)
                self.assertIs(are_one(word, other), True)

    def test_all_short_words_with_each_other(self):
        words = words_of(4, "ab") + words_of(3, "abc") + words_of(2, "ab")
        for one in words:
            found = [stepped(one, by) for by in range(len(one))]
            for other in words:
                least = found.index(other) if other in found else None
                self.assertEqual(turning_of(one, other), least, (one, other))
                self.assertIs(are_one(one, other), least is not None, (one, other))

    def test_bad_word_of_either(self):
        for at, thing in enumerate(NOT_WORDS):
            with self.subTest(at=at):
                for ask in (are_one, turning_of):
                    with self.assertRaises(BadWord):
                        ask(thing, "abc")
                    with self.assertRaises(BadWord):
                        ask("abc", thing)
                    with self.assertRaises(BadWord):
                        ask(thing, thing)


class Period(unittest.TestCase):
    def test_some(self):
        self.assertEqual(period("a"), 1)
        self.assertEqual(period("aa"), 1)
        self.assertEqual(period("ab"), 2)
        self.assertEqual(period("aba"), 3)
        self.assertEqual(period("abab"), 2)
        self.assertEqual(period("ababa"), 5)
        self.assertEqual(period("abaaba"), 3)
        self.assertEqual(period("abbabb"), 3)
        self.assertEqual(period("a" * 60), 1)
        self.assertEqual(period("a" * 59 + "b"), 60)

    def test_stretches_told_again_and_again(self):
        for many in range(1, 61):
            stretch = "a" * (many - 1) + "b"
            for times in range(1, 60 // many + 1):
                word = stretch * times
                self.assertEqual(period(word), many)
                # But for one letter the word is that stretch again and again.
                if times > 1:
                    self.assertEqual(period(word[:-1] + "c"), many * times)
                    self.assertEqual(period("c" + word[1:]), many * times)

    def test_least_turning_that_is_the_word(self):
        for word in WORDS:
            with self.subTest(word=word):
                by = 1
                while stepped(word, by) != word:
                    by = by + 1
                self.assertEqual(period(word), by)

    def test_bad_word(self):
        for at, thing in enumerate(NOT_WORDS):
            with self.subTest(at=at):
                with self.assertRaises(BadWord):
                    period(thing)


if __name__ == "__main__":
    unittest.main()
