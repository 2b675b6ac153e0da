"""Point 7, and point 1 where it touches mirrors."""

import unittest

from beadrings.errors import BadWord
from beadrings.mirrors import is_own_mirror, mirror_of
from tests.samples import LONG_WORDS, NOT_WORDS, WORDS, stepped


def least_turning(word):
    return min(stepped(word, by) for by in range(len(word)))


def mirrored_by_letters(word):
    told = ""
    for letter in word:
        told = letter + told
    return told


class MirrorOf(unittest.TestCase):
    def test_some(self):
        self.assertEqual(mirror_of("a"), "a")
        self.assertEqual(mirror_of("h"), "h")
        self.assertEqual(mirror_of("ab"), "ab")
        self.assertEqual(mirror_of("ba"), "ab")
        self.assertEqual(mirror_of("abc"), "acb")
        self.assertEqual(mirror_of("cab"), "acb")
        self.assertEqual(mirror_of("acb"), "abc")
        self.assertEqual(mirror_of("aababb"), "aabbab")
        self.assertEqual(mirror_of("aabbab"), "aababb")
        self.assertEqual(mirror_of("abcabc"), "acbacb")
        self.assertEqual(mirror_of("a" * 60), "a" * 60)
        self.assertEqual(mirror_of("h" + "a" * 59), "a" * 59 + "h")
        self.assertEqual(mirror_of("abc" * 20), "acb" * 20)
        self.assertEqual(mirror_of("a" * 57 + "bcd"), "a" * 57 + "dcb")
        self.assertEqual(mirror_of(word="bac"), "abc")

    def test_ring_of_the_ring_mirrored(self):
        for word in WORDS:
            with self.subTest(word=word):
                ring = least_turning(word)
                told = mirror_of(word)
                self.assertEqual(told, least_turning(mirrored_by_letters(ring)))
                self.assertEqual(mirror_of(told), ring)

    def test_the_same_for_each_turning(self):
        for word in LONG_WORDS:
            for by in range(len(word)):
                self.assertEqual(mirror_of(stepped(word, by)), mirror_of(word))


class IsOwnMirror(unittest.TestCase):
    def test_some(self):
        for word in ("a", "h", "ab", "ba", "aab", "abab", "abac", "caba", "aabb", "a" * 60, "h" * 59 + "a", "ba" * 30):
            self.assertIs(is_own_mirror(word), True, word)
        for word in ("abc", "acb", "cba", "aababb", "bbabaa", "abcabc", "a" * 57 + "bcd", "abcdefgh", "bca" * 20):
            self.assertIs(is_own_mirror(word), False, word)
        self.assertIs(is_own_mirror(word="bac"), False)

    def test_the_word_mirrored_is_a_turning_of_it(self):
        for word in WORDS:
            with self.subTest(word=word):
                turnings = [stepped(word, by) for by in range(len(word))]
                self.assertIs(is_own_mirror(word), mirrored_by_letters(word) in turnings)


class Refused(unittest.TestCase):
    def test_bad_word(self):
        for at, thing in enumerate(NOT_WORDS):
            with self.subTest(at=at):
                for ask in (mirror_of, is_own_mirror):
                    with self.assertRaises(BadWord):
                        ask(thing)

    def test_what_is_refused_is_not_changed(self):
        letters = ["b", "a"]
        table = {"b": "a"}
        for ask in (mirror_of, is_own_mirror):
            for thing in (letters, table):
                with self.assertRaises(BadWord):
                    ask(thing)
        self.assertEqual(letters, ["b", "a"])
        self.assertEqual(table, {"b": "a"})


if __name__ == "__main__":
    unittest.main()
