"""Point 8, and point 1 where it touches the long ring."""

import unittest

from beadrings.chains import long_word, place_of
from beadrings.errors import BadNumber, BadWord, TooMany
from tests.samples import ALL_SIZES, LETTERS, NOT_COLOURS, NOT_LENGTHS, NOT_WORDS, stepped, words_of

# Of each count of colours the greatest length with at most 3,000 words.
MOST = {1: 60, 2: 11, 3: 7, 4: 5, 5: 4, 6: 4, 7: 4, 8: 3}

TOLD = [(length, colours) for length, colours in ALL_SIZES if length <= MOST[colours]]

NOT_TOLD = [(length, colours) for length, colours in ALL_SIZES if length > MOST[colours]]


def primes_by_trial(length, colours):
    return [
        word for word in words_of(length, LETTERS[:colours])
        if all(word < stepped(word, by) for by in range(1, length))
    ]


def long_word_by_trial(length, colours):
    primes = []
    for part in range(1, length + 1):
        if length % part == 0:
            primes.extend(primes_by_trial(part, colours))
    return "".join(sorted(primes))


def read_round(told, at, length):
    return "".join(told[(at + step) % len(told)] for step in range(length))


class LongWord(unittest.TestCase):
    def test_some(self):
        self.assertEqual(long_word(1, 1), "a")
        self.assertEqual(long_word(60, 1), "a")
        self.assertEqual(long_word(1, 8), "abcdefgh")
        self.assertEqual(long_word(2, 2), "aabb")
        self.assertEqual(long_word(3, 2), "aaababbb")
        self.assertEqual(long_word(4, 2), "aaaabaabbababbbb")
        self.assertEqual(long_word(2, 3), "aabacbbcc")
        self.assertEqual(long_word(colours=3, length=2), "aabacbbcc")

    def test_primes_whose_length_goes_into_it_rising(self):
        for length, colours in TOLD:
            with self.subTest(length=length, colours=colours):
                told = long_word(length, colours)
                self.assertIs(type(told), str)
                self.assertEqual(len(told), colours ** length)
                self.assertEqual(told, long_word_by_trial(length, colours))

    def test_each_word_at_just_one_place(self):
        for length, colours in TOLD:
            with self.subTest(length=length, colours=colours):
                told = long_word(length, colours)
                read = sorted(read_round(told, at, length) for at in range(len(told)))
                self.assertEqual(read, words_of(length, LETTERS[:colours]))

    def test_too_many(self):
        self.assertEqual(NOT_TOLD[:3], [(4, 8), (5, 5), (5, 6)])
        for length, colours in NOT_TOLD:
            with self.subTest(length=length, colours=colours):
                self.assertGreater(colours ** length, 3000)
                with self.assertRaises(TooMany):
                    long_word(length, colours)

    def test_bad_number(self):
        for length in NOT_LENGTHS:
            for colours in NOT_COLOURS + [1, 2, 8]:
                with self.assertRaises(BadNumber):
                    long_word(length, colours)
        for colours in NOT_COLOURS:
            for length in (1, 2, 4, 60):
                with self.assertRaises(BadNumber):
                    long_word(length, colours)


class PlaceOf(unittest.TestCase):
    def test_some(self):
        self.assertEqual(place_of("a", 1, 1), 0)
        self.assertEqual(place_of("a" * 60, 60, 1), 0)
        self.assertEqual(place_of("aa", 2, 1), 0)
        self.assertEqual(place_of("h", 1, 8), 7)
        self.assertEqual(place_of("aaa", 3, 2), 0)
        self.assertEqual(place_of("aab", 3, 2), 1)
        self.assertEqual(place_of("bbb", 3, 2), 5)
        self.assertEqual(place_of(colours=2, length=3, text="bab"), 3)

    def test_round_the_end(self):
        self.assertEqual(place_of("bba", 3, 2), 6)
        self.assertEqual(place_of("baa", 3, 2), 7)
        self.assertEqual(place_of("ba", 2, 2), 3)
        self.assertEqual(place_of("baaa", 4, 2), 15)
        self.assertEqual(place_of("hha", 3, 8), 510)
        self.assertEqual(place_of("haa", 3, 8), 511)
        self.assertEqual(place_of("b" + "a" * 10, 11, 2), 2047)

    def test_every_word(self):
        for length, colours in TOLD:
            if colours ** length > 1100:
                continue
            with self.subTest(length=length, colours=colours):
                told = long_word(length, colours)
                for at in range(len(told)):
                    self.assertEqual(place_of(read_round(told, at, length), length, colours), at)

    def test_some_words_of_the_longest(self):
        for colours, length in MOST.items():
            with self.subTest(length=length, colours=colours):
                told = long_word(length, colours)
                for at in list(range(0, len(told), 97)) + list(range(max(0, len(told) - length - 1), len(told))):
                    self.assertEqual(place_of(read_round(told, at, length), length, colours), at)

    def test_bad_word(self):
        for at, text in enumerate(NOT_WORDS):
            with self.subTest(at=at):
                for length, colours in ((1, 1), (60, 1), (1, 8), (3, 2), (3, 8), (11, 2)):
                    with self.assertRaises(BadWord):
                        place_of(text, length, colours)

    def test_bad_word_of_another_length(self):
        for text, length, colours in (
            ("a", 2, 1), ("aa", 1, 1), ("ab", 3, 2), ("abab", 3, 2), ("aab", 2, 2), ("aaababbb", 3, 2),
            ("a" * 59, 60, 1), ("a" * 60, 59, 1), ("a" * 60, 1, 1), ("a" * 60, 11, 2), ("abcdefgh", 1, 8),
        ):
            with self.subTest(text=text, length=length, colours=colours):
                with self.assertRaises(BadWord):
                    place_of(text, length, colours)

    def test_bad_word_with_another_letter(self):
        for text, length, colours in (
            ("b", 1, 1), ("ab", 2, 1), ("a" * 59 + "b", 60, 1), ("abc", 3, 2), ("cab", 3, 2), ("h", 1, 7), ("aah", 3, 7),
        ):
            with self.subTest(text=text, length=length, colours=colours):
                with self.assertRaises(BadWord):
                    place_of(text, length, colours)

    def test_bad_number_goes_ahead_of_bad_word(self):
        for text in ["a", "ab", "a" * 60] + NOT_WORDS:
            for length in NOT_LENGTHS:
                for colours in (1, 8, 0, 9, None, True):
                    with self.assertRaises(BadNumber):
                        place_of(text, length, colours)
            for colours in NOT_COLOURS:
                for length in (1, 2, 60):
                    with self.assertRaises(BadNumber):
                        place_of(text, length, colours)

    def test_too_many_goes_ahead_of_bad_word(self):
        for text in ["a", "a" * 12, "a" * 60] + NOT_WORDS:
            for length, colours in ((12, 2), (8, 3), (5, 5), (4, 8), (60, 8), (60, 2)):
                with self.assertRaises(TooMany):
                    place_of(text, length, colours)


class HandedIn(unittest.TestCase):
    def test_what_is_refused_is_not_changed(self):
        held = ["a", "b"]
        table = {"a": "b"}
        for thing in (held, table):
            for ask, error in (
                (lambda: long_word(thing, 2), BadNumber), (lambda: long_word(2, thing), BadNumber),
                (lambda: place_of(thing, 2, 2), BadWord), (lambda: place_of("ab", thing, 2), BadNumber),
                (lambda: place_of("ab", 2, thing), BadNumber),
            ):
                with self.assertRaises(error):
                    ask()
        self.assertEqual(held, ["a", "b"])
        self.assertEqual(table, {"a": "b"})


if __name__ == "__main__":
    unittest.main()
