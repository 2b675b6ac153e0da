"""Point 5, and point 1 where it touches the rings in order."""

import unittest

from beadrings.counts import many_rings
from beadrings.errors import BadNumber, BadRing, NoRing, TooMany
from beadrings.orders import all_rings, next_ring, number_of, ring_at
from beadrings.rings import ring_of
from beadrings.wholes import need_few
from tests.samples import (
    ALL_SIZES, LETTERS, LONG_WORDS, NOT_COLOURS, NOT_LENGTHS, NOT_RINGS, NOT_WHOLE, SHORT_SIZES, rings_by_trial,
    stepped,
)

# Of each count of colours the greatest length with at most 3,000 rings, and how many there are.
MOST = {2: (15, 2192), 3: (9, 2195), 4: (7, 2344), 5: (6, 2635), 6: (5, 1560), 7: (4, 616), 8: (4, 1044)}

NO_NUMBERS = NOT_WHOLE + [-1, -2, -10 ** 3999, 10 ** 20, 10 ** 3999, "aab"]

# Rings with a letter beyond so many colours.
BEYOND = [("b", 1), ("ab", 1), ("abc", 2), ("abd", 3), ("h", 7), ("ah", 7), ("c" * 60, 2), ("a" * 59 + "h", 7)]


def word_behind(word, letters):
    """The next word of its length, of these letters, as numbers are counted up."""
    if word == "":
        return ""
    at = letters.index(word[-1])
    if at + 1 < len(letters):
        return word[:-1] + letters[at + 1]
    return word_behind(word[:-1], letters) + letters[0]


def next_by_trial(ring, colours, tries=600):
    """The next ring by a trial of the words behind this one, None if so many tries do not reach one."""
    if ring == LETTERS[colours - 1] * len(ring):
        return None
    word = ring
    for _ in range(tries):
        word = word_behind(word, LETTERS[:colours])
        if all(word <= stepped(word, by) for by in range(1, len(word))):
            return word
    return None


def walked(length, colours):
    found = []
    ring = "a" * length
    while ring is not None:
        found.append(ring)
        ring = next_ring(ring, colours)
    return found


def mixed_words(many, length, colours):
    """Words without a plain order, always the same ones."""
    state = 12345
    for _ in range(many):
        word = ""
        for _ in range(length):
            state = (state * 1103515245 + 12345) % 2 ** 31
            word = word + LETTERS[state // 2 ** 16 % colours]
        yield word


class NextRing(unittest.TestCase):
    def test_some(self):
        self.assertEqual(next_ring("a", 2), "b")
        self.assertIs(next_ring("a", 1), None)
        self.assertIs(next_ring("b", 2), None)
        self.assertEqual(next_ring("b", 3), "c")
        self.assertIs(next_ring("h", 8), None)
        self.assertEqual(next_ring("aaa", 2), "aab")
        self.assertEqual(next_ring("aab", 2), "abb")
        self.assertEqual(next_ring("aab", 3), "aac")
        self.assertEqual(next_ring("aac", 3), "abb")
        self.assertEqual(next_ring("aabb", 2), "abab")
        self.assertEqual(next_ring("abab", 2), "abbb")
        self.assertEqual(next_ring("abbb", 2), "bbbb")
        self.assertIs(next_ring("bbbb", 2), None)
        self.assertEqual(next_ring(colours=2, ring="aab"), "abb")

    def test_all_of_short_ones(self):
        for length, colours in SHORT_SIZES:
            with self.subTest(length=length, colours=colours):
                self.assertEqual(walked(length, colours), rings_by_trial(length, colours))

    def test_where_there_are_more_than_are_told(self):
        for length, colours, many in ((16, 2, 4116), (5, 7, 3367), (5, 8, 6560)):
            with self.subTest(length=length, colours=colours):
                told = walked(length, colours)
                self.assertEqual(len(told), many)
                self.assertEqual(told, rings_by_trial(length, colours))

    def test_the_first_and_the_last_of_every_length(self):
        for length, colours in ALL_SIZES:
            with self.subTest(length=length, colours=colours):
                first = "a" * length
                last = LETTERS[colours - 1] * length
                self.assertIs(next_ring(last, colours), None)
                if colours > 1:
                    self.assertEqual(next_ring(first, colours), "a" * (length - 1) + "b")
                    before = LETTERS[colours - 2] + last[1:]
                    self.assertEqual(next_ring(before, colours), last)
                if colours < 8:
                    self.assertEqual(next_ring(last, colours + 1), last[1:] + LETTERS[colours])

    def test_sixty_letters_of_eight_colours(self):
        for ring, told in (
            ("a" * 60, "a" * 59 + "b"), ("a" * 59 + "g", "a" * 59 + "h"), ("a" * 59 + "h", "a" * 58 + "bb"),
            ("a" * 58 + "bh", "a" * 58 + "cb"), ("a" * 58 + "hh", "a" * 57 + "bab"), ("a" + "h" * 59, "b" * 60),
            ("ab" + "h" * 58, "ac" * 30), ("ag" + "h" * 58, "ah" * 30),
            ("ah" * 30, "ah" * 29 + "bb"), ("abc" * 20, "abc" * 19 + "abd"), ("abh" * 20, "abh" * 19 + "acb"),
            ("abcdefgh" * 7 + "abce", "abcdefgh" * 7 + "abcf"), ("g" + "h" * 59, "h" * 60), ("h" * 60, None),
        ):
            with self.subTest(ring=ring):
                self.assertEqual(next_ring(ring, 8), told)

    def test_long_ones_by_trial(self):
        tried = 0
        for length, colours in ((60, 8), (60, 2), (59, 3), (36, 5), (20, 2)):
            for word in list(mixed_words(20, length, colours)) + [word for word in LONG_WORDS if len(word) == length]:
                ring = ring_of(word)
                if not set(ring) <= set(LETTERS[:colours]):
                    continue
                for _ in range(5):
                    told = next_ring(ring, colours)
                    found = next_by_trial(ring, colours)
                    if found is None:
                        break
                    self.assertEqual(told, found, ring)
                    tried = tried + 1
                    ring = told
        self.assertGreater(tried, 400)

    def test_rings_behind_a_break_of_every_length(self):
        # A prime told again and again, but for the last places.
        for length in range(1, 61):
            for many in range(1, length):
                ring = ring_of("a" * (many - 1) + "b" + "c" * (length - many))
                with self.subTest(ring=ring):
                    told = next_ring(ring, 4)
                    self.assertGreater(told, ring)
                    self.assertEqual(told, ring_of(told))
                    self.assertEqual(next_by_trial(ring, 4, 80), told)

    def test_bad_ring(self):
        for at, thing in enumerate(NOT_RINGS):
            with self.subTest(at=at):
                for ask in (next_ring, number_of):
                    for colours in [1, 2, 8] + NOT_COLOURS:
                        with self.assertRaises(BadRing):
                            ask(thing, colours)

    def test_bad_number_of_a_ring(self):
        for at, colours in enumerate(NOT_COLOURS):
            with self.subTest(at=at):
                for ask in (next_ring, number_of):
                    for ring in ("a", "h", "abc", "abab", "h" * 60, "a" * 59 + "h"):
                        with self.assertRaises(BadNumber):
                            ask(ring, colours)

    def test_ring_with_another_letter(self):
        for ring, colours in BEYOND:
            with self.subTest(ring=ring, colours=colours):
                for ask in (next_ring, number_of):
                    with self.assertRaises(BadRing):
                        ask(ring, colours)


class AllRings(unittest.TestCase):
    def test_some(self):
        self.assertEqual(all_rings(1, 1), ["a"])
        self.assertEqual(all_rings(1, 8), list("abcdefgh"))
        self.assertEqual(all_rings(60, 1), ["a" * 60])
        self.assertEqual(all_rings(2, 3), ["aa", "ab", "ac", "bb", "bc", "cc"])
        self.assertEqual(all_rings(4, 2), ["aaaa", "aaab", "aabb", "abab", "abbb", "bbbb"])
        self.assertEqual(all_rings(colours=2, length=3), ["aaa", "aab", "abb", "bbb"])

    def test_trial_of_all_words(self):
        for length, colours in SHORT_SIZES:
            with self.subTest(length=length, colours=colours):
                told = all_rings(length, colours)
                self.assertIs(type(told), list)
                self.assertEqual(told, rings_by_trial(length, colours))

    def test_just_as_many_as_are_told(self):
        for colours, (length, many) in MOST.items():
            with self.subTest(colours=colours):
                told = all_rings(length, colours)
                self.assertEqual(len(told), many)
                self.assertEqual(told, rings_by_trial(length, colours))
                with self.assertRaises(TooMany):
                    all_rings(length + 1, colours)

    def test_too_many(self):
        for length, colours in ALL_SIZES:
            with self.subTest(length=length, colours=colours):
                if many_rings(length, colours) > 3000:
                    for ask in (lambda: all_rings(length, colours), lambda: ring_at(0, length, colours),
                                lambda: number_of("a" * length, colours)):
                        with self.assertRaises(TooMany):
                            ask()
                else:
                    self.assertEqual(len(all_rings(length, colours)), many_rings(length, colours))

    def test_three_thousand_are_not_too_many(self):
        # No length has just so many rings, or words.
        need_few(3000)
        with self.assertRaises(TooMany):
            need_few(3001)

    def test_bad_number(self):
        for length in NOT_LENGTHS:
            for colours in NOT_COLOURS + [1, 2, 8]:
                with self.assertRaises(BadNumber):
                    all_rings(length, colours)
        for colours in NOT_COLOURS:
            for length in (1, 4, 60):
                with self.assertRaises(BadNumber):
                    all_rings(length, colours)

    def test_the_list_is_the_askers_own(self):
        first = all_rings(3, 2)
        other = all_rings(4, 2)
        first.append("x")
        first[0] = None
        other.clear()
        self.assertEqual(all_rings(4, 2), ["aaaa", "aaab", "aabb", "abab", "abbb", "bbbb"])
        second = all_rings(3, 2)
        self.assertEqual(second, ["aaa", "aab", "abb", "bbb"])
        second.reverse()
        self.assertEqual(first, [None, "aab", "abb", "bbb", "x"])
        self.assertEqual(all_rings(3, 2), ["aaa", "aab", "abb", "bbb"])
        self.assertEqual(next_ring("aaa", 2), "aab")
        self.assertEqual(number_of("bbb", 2), 3)
        self.assertEqual(ring_at(0, 3, 2), "aaa")
        self.assertEqual(other, [])


class Numbered(unittest.TestCase):
    def test_some(self):
        self.assertEqual(number_of("a", 1), 0)
        self.assertEqual(number_of("h", 8), 7)
        self.assertEqual(number_of("a" * 60, 1), 0)
        self.assertEqual(number_of("abab", 2), 3)
        self.assertEqual(number_of("abab", 3), 7)
        self.assertEqual(ring_at(0, 1, 1), "a")
        self.assertEqual(ring_at(7, 1, 8), "h")
        self.assertEqual(ring_at(0, 60, 1), "a" * 60)
        self.assertEqual(ring_at(3, 4, 2), "abab")
        self.assertEqual(number_of(colours=2, ring="aab"), 1)
        self.assertEqual(ring_at(colours=2, length=3, number=1), "aab")

    def test_all_of_short_ones(self):
        for length, colours in SHORT_SIZES:
            with self.subTest(length=length, colours=colours):
                for number, ring in enumerate(rings_by_trial(length, colours)[:200]):
                    self.assertEqual(number_of(ring, colours), number)
                    self.assertEqual(ring_at(number, length, colours), ring)

    def test_just_as_many_as_are_numbered(self):
        for colours, (length, many) in MOST.items():
            with self.subTest(colours=colours):
                last = LETTERS[colours - 1] * length
                self.assertEqual(ring_at(0, length, colours), "a" * length)
                self.assertEqual(ring_at(many - 1, length, colours), last)
                self.assertEqual(number_of("a" * length, colours), 0)
                self.assertEqual(number_of(last, colours), many - 1)
                for number in (-many, -1, many, many + 1):
                    with self.assertRaises(NoRing):
                        ring_at(number, length, colours)
                with self.assertRaises(TooMany):
                    ring_at(0, length + 1, colours)
                with self.assertRaises(TooMany):
                    number_of("a" * (length + 1), colours)
                with self.assertRaises(TooMany):
                    number_of(last + last[0], colours)

    def test_no_ring(self):
        for at, number in enumerate(NO_NUMBERS):
            with self.subTest(at=at):
                for length, colours in ((1, 1), (1, 8), (60, 1), (4, 2), (15, 2)):
                    with self.assertRaises(NoRing):
                        ring_at(number, length, colours)

    def test_no_ring_just_beyond(self):
        for length, colours in SHORT_SIZES:
            many = many_rings(length, colours)
            with self.assertRaises(NoRing):
                ring_at(many, length, colours)
            with self.assertRaises(NoRing):
                ring_at(-1, length, colours)

    def test_bad_number_goes_ahead_of_too_many_and_no_ring(self):
        for number in [0, 1, 10 ** 20] + NO_NUMBERS:
            for length in NOT_LENGTHS:
                for colours in (1, 8, 0, 9, None, "2", True):
                    with self.assertRaises(BadNumber):
                        ring_at(number, length, colours)
            for colours in NOT_COLOURS:
                for length in (1, 4, 60):
                    with self.assertRaises(BadNumber):
                        ring_at(number, length, colours)

    def test_too_many_goes_ahead_of_no_ring(self):
        for number in NO_NUMBERS:
            for length, colours in ((60, 8), (16, 2), (5, 7), (60, 2)):
                with self.assertRaises(TooMany):
                    ring_at(number, length, colours)

    def test_bad_ring_and_bad_number_go_ahead_of_too_many(self):
        for ring, colours, error in (
            ("b" + "a" * 59, 8, BadRing), ("b" + "a" * 59, 9, BadRing), ("a" * 60, 9, BadNumber),
            ("a" * 60, None, BadNumber), ("a" * 59 + "c", 2, BadRing), ("a" * 61, 8, BadRing),
            ("a" * 59 + "c", 0, BadNumber), ("a" * 60, 8, TooMany), ("a" * 60, 2, TooMany),
        ):
            with self.subTest(ring=ring, colours=colours):
                with self.assertRaises(error):
                    number_of(ring, colours)


class HandedIn(unittest.TestCase):
    def test_what_is_refused_is_not_changed(self):
        held = [2]
        table = {2: 2}
        for thing in (held, table):
            for ask, error in (
                (lambda: next_ring(thing, 2), BadRing), (lambda: next_ring("ab", thing), BadNumber),
                (lambda: number_of(thing, 2), BadRing), (lambda: number_of("ab", thing), BadNumber),
                (lambda: all_rings(thing, 2), BadNumber), (lambda: all_rings(2, thing), BadNumber),
                (lambda: ring_at(thing, 2, 2), NoRing), (lambda: ring_at(0, thing, 2), BadNumber),
                (lambda: ring_at(0, 2, thing), BadNumber),
            ):
                with self.assertRaises(error):
                    ask()
        self.assertEqual(held, [2])
        self.assertEqual(table, {2: 2})


if __name__ == "__main__":
    unittest.main()
