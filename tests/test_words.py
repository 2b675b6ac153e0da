"""Points 1 and 2, and what mirrored means (7)."""

import unittest

from beadrings.errors import BadNumber, BadWord
from beadrings.words import is_word, mirrored, turned, turnings
from tests.samples import LETTERS, NOT_WHOLE, NOT_WORDS, WORDS, stepped


class IsWord(unittest.TestCase):
    def test_words(self):
        for word in WORDS:
            with self.subTest(word=word):
                self.assertIs(is_word(word), True)

    def test_every_length(self):
        for length in range(0, 70):
            for letter in "ah":
                with self.subTest(length=length, letter=letter):
                    self.assertIs(is_word(letter * length), 1 <= length <= 60)

    def test_every_sign(self):
        for number in list(range(32, 127)) + [10, 13]:
            sign = chr(number)
            with self.subTest(sign=sign):
                self.assertIs(is_word(sign), sign in LETTERS)
                self.assertIs(is_word("ab" + sign), sign in LETTERS)
                self.assertIs(is_word(sign + "ab"), sign in LETTERS)
                self.assertIs(is_word("a" + sign + "b"), sign in LETTERS)

    def test_what_is_no_word(self):
        for at, thing in enumerate(NOT_WORDS):
            with self.subTest(at=at):
                self.assertIs(is_word(thing), False)


class Turned(unittest.TestCase):
    def test_some(self):
        self.assertEqual(turned("abcde", 0), "abcde")
        self.assertEqual(turned("abcde", 1), "bcdea")
        self.assertEqual(turned("abcde", 2), "cdeab")
        self.assertEqual(turned("abcde", 4), "eabcd")
        self.assertEqual(turned("abcde", 5), "abcde")
        self.assertEqual(turned("abcde", 6), "bcdea")
        self.assertEqual(turned("abcde", -1), "eabcd")
        self.assertEqual(turned("abcde", -5), "abcde")
        self.assertEqual(turned("abcde", -6), "eabcd")
        self.assertEqual(turned("abcde", 10 ** 3000 + 2), "cdeab")
        self.assertEqual(turned("abcde", 2 - 10 ** 3000), "cdeab")
        self.assertEqual(turned("h", 7), "h")
        self.assertEqual(turned(by=1, word="ab"), "ba")

    def test_letter_by_letter(self):
        for word in WORDS:
            many = len(word)
            for by in list(range(-2 * many - 1, 2 * many + 2)):
                if turned(word, by) != stepped(word, by):
                    self.fail(f"{word} turned by {by}")

    def test_far_beyond_the_letters(self):
        for word in WORDS:
            many = len(word)
            for far in (many * 10 ** 20, -many * 10 ** 20):
                for by in (-1, 0, 1, 7):
                    self.assertEqual(turned(word, far + by), stepped(word, by))

    def test_bad_word(self):
        for at, thing in enumerate(NOT_WORDS):
            with self.subTest(at=at):
                with self.assertRaises(BadWord):
                    turned(thing, 1)

    def test_bad_number(self):
        for at, thing in enumerate(NOT_WHOLE):
            with self.subTest(at=at):
                with self.assertRaises(BadNumber):
                    turned("abc", thing)
                with self.assertRaises(BadNumber):
                    turned("a", thing)

    def test_bad_word_goes_ahead_of_bad_number(self):
        for word in NOT_WORDS:
            for by in NOT_WHOLE:
                with self.assertRaises(BadWord):
                    turned(word, by)


class Turnings(unittest.TestCase):
    def test_some(self):
        self.assertEqual(turnings("a"), ["a"])
        self.assertEqual(turnings("abc"), ["abc", "bca", "cab"])
        self.assertEqual(turnings("abab"), ["abab", "baba", "abab", "baba"])
        self.assertEqual(turnings("hhh"), ["hhh", "hhh", "hhh"])

    def test_letter_by_letter(self):
        for word in WORDS:
            with self.subTest(word=word):
                told = turnings(word)
                self.assertIs(type(told), list)
                self.assertEqual(told, [stepped(word, by) for by in range(len(word))])

    def test_the_list_is_the_askers_own(self):
        first = turnings("abc")
        first.append("x")
        first[0] = None
        second = turnings("abc")
        self.assertEqual(second, ["abc", "bca", "cab"])
        second.clear()
        self.assertEqual(first, [None, "bca", "cab", "x"])
        self.assertEqual(turnings("abc"), ["abc", "bca", "cab"])

    def test_bad_word(self):
        for at, thing in enumerate(NOT_WORDS):
            with self.subTest(at=at):
                with self.assertRaises(BadWord):
                    turnings(thing)


class Mirrored(unittest.TestCase):
    def test_some(self):
        self.assertEqual(mirrored("a"), "a")
        self.assertEqual(mirrored("abc"), "cba")
        self.assertEqual(mirrored("abba"), "abba")
        self.assertEqual(mirrored("a" + "h" * 59), "h" * 59 + "a")

    def test_letter_by_letter(self):
        for word in WORDS:
            with self.subTest(word=word):
                told = ""
                for letter in word:
                    told = letter + told
                self.assertEqual(mirrored(word), told)

    def test_bad_word(self):
        for at, thing in enumerate(NOT_WORDS):
            with self.subTest(at=at):
                with self.assertRaises(BadWord):
                    mirrored(thing)


class HandedIn(unittest.TestCase):
    def test_what_is_refused_is_not_changed(self):
        letters = ["a", "b"]
        table = {"a": "b"}
        for thing in (letters, table):
            for ask in (turnings, mirrored, lambda word: turned(word, 1)):
                with self.assertRaises(BadWord):
                    ask(thing)
            self.assertIs(is_word(thing), False)
            with self.assertRaises(BadNumber):
                turned("ab", thing)
        self.assertEqual(letters, ["a", "b"])
        self.assertEqual(table, {"a": "b"})


if __name__ == "__main__":
    unittest.main()
