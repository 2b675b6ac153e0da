"""Points 1 and 4."""

import unittest

from beadrings.errors import BadWord
from beadrings.parting import is_prime, parts_of
from beadrings.rings import is_ring, period
from tests.samples import LETTERS, NOT_WORDS, SHORT_WORDS, WORDS, stepped, words_of


def prime_by_the_text(word):
    return all(word < stepped(word, by) for by in range(1, len(word)))


def all_partings(word):
    """Every way to part the word into primes, none greater than the one ahead of it."""
    if word == "":
        return [[]]
    found = []
    for many in range(1, len(word) + 1):
        head = word[:many]
        if prime_by_the_text(head):
            found.extend([head] + rest for rest in all_partings(word[many:]) if not rest or rest[0] <= head)
    return found


class IsPrime(unittest.TestCase):
    def test_some(self):
        for word in ("a", "h", "ab", "aab", "abb", "abac", "aabab", "abcdefgh", "a" * 59 + "b", "a" + "b" * 59):
            self.assertIs(is_prime(word), True, word)
        for word in ("aa", "ba", "aba", "abab", "acab", "hh", "a" * 60, "ab" * 30, "b" + "a" * 59):
            self.assertIs(is_prime(word), False, word)

    def test_every_one_letter(self):
        for letter in LETTERS:
            self.assertIs(is_prime(letter), True)

    def test_less_than_each_turning(self):
        for word in WORDS:
            with self.subTest(word=word):
                self.assertIs(is_prime(word), prime_by_the_text(word))

    def test_ring_whose_period_is_its_length(self):
        for word in WORDS:
            with self.subTest(word=word):
                self.assertIs(is_prime(word), is_ring(word) and period(word) == len(word))

    def test_what_is_no_word_is_no_prime(self):
        for at, thing in enumerate(NOT_WORDS):
            with self.subTest(at=at):
                self.assertIs(is_prime(thing), False)


class PartsOf(unittest.TestCase):
    def test_some(self):
        self.assertEqual(parts_of("a"), ["a"])
        self.assertEqual(parts_of("h"), ["h"])
        self.assertEqual(parts_of("aaa"), ["a", "a", "a"])
        self.assertEqual(parts_of("ab"), ["ab"])
        self.assertEqual(parts_of("ba"), ["b", "a"])
        self.assertEqual(parts_of("abab"), ["ab", "ab"])
        self.assertEqual(parts_of("cabab"), ["c", "ab", "ab"])
        self.assertEqual(parts_of("abaab"), ["ab", "aab"])
        self.assertEqual(parts_of("bbababaabaaabaaaa"), ["b", "b", "ab", "ab", "aab", "aaab", "a", "a", "a", "a"])
        self.assertEqual(parts_of("abcdefgh"), ["abcdefgh"])
        self.assertEqual(parts_of("hgfedcba"), list("hgfedcba"))
        self.assertEqual(parts_of("a" * 60), ["a"] * 60)
        self.assertEqual(parts_of("ab" * 30), ["ab"] * 30)
        self.assertEqual(parts_of("abc" * 19 + "abd"), ["abc" * 19 + "abd"])
        self.assertEqual(parts_of("abc" * 19 + "abb"), ["abc"] * 19 + ["abb"])

    def test_primes_falling_that_are_the_word(self):
        for word in WORDS:
            with self.subTest(word=word):
                told = parts_of(word)
                self.assertIs(type(told), list)
                self.assertEqual("".join(told), word)
                self.assertTrue(all(prime_by_the_text(part) for part in told))
                self.assertEqual(told, sorted(told, reverse=True))

    def test_just_one_way(self):
        for word in SHORT_WORDS:
            with self.subTest(word=word):
                self.assertEqual(all_partings(word), [parts_of(word)])

    def test_a_prime_is_its_own_only_part(self):
        for word in words_of(5, "abc"):
            self.assertEqual(parts_of(word) == [word], is_prime(word))

    def test_the_list_is_the_askers_own(self):
        first = parts_of("abaab")
        first.append("x")
        first[0] = None
        second = parts_of("abaab")
        self.assertEqual(second, ["ab", "aab"])
        second.clear()
        self.assertEqual(first, [None, "aab", "x"])
        self.assertEqual(parts_of("abaab"), ["ab", "aab"])

    def test_bad_word(self):
        for at, thing in enumerate(NOT_WORDS):
            with self.subTest(at=at):
                with self.assertRaises(BadWord):
                    parts_of(thing)

    def test_what_is_refused_is_not_changed(self):
        letters = ["b", "a"]
        with self.assertRaises(BadWord):
            parts_of(letters)
        self.assertIs(is_prime(letters), False)
        self.assertEqual(letters, ["b", "a"])


if __name__ == "__main__":
    unittest.main()
