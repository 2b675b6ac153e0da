"""Point 6, the counts of point 7, and point 1 where it touches them."""

import unittest
from math import gcd

from beadrings.counts import many_mirrored, many_own, many_primes, many_rings
from beadrings.errors import BadNumber
from tests.samples import ALL_SIZES, NOT_COLOURS, NOT_LENGTHS, SHORT_SIZES, rings_by_trial, stepped

COUNTS = (many_rings, many_primes, many_mirrored, many_own)


def mirror_by_trial(ring):
    word = "".join(reversed(ring))
    return min(stepped(word, by) for by in range(len(word)))


def fixed_by_turning(length, colours, by):
    """How many words are the same, turned by so many places."""
    return colours ** gcd(length, by)


def fixed_by_mirroring(length, colours, axis):
    """How many words are the same, where the letters at k and at axis - k are exchanged."""
    pairs = {frozenset((at, (axis - at) % length)) for at in range(length)}
    return colours ** len(pairs)


class ManyRings(unittest.TestCase):
    def test_some(self):
        self.assertEqual([many_rings(length, 2) for length in range(1, 17)],
                         [2, 3, 4, 6, 8, 14, 20, 36, 60, 108, 188, 352, 632, 1182, 2192, 4116])
        self.assertEqual([many_rings(length, 3) for length in range(1, 8)], [3, 6, 11, 24, 51, 130, 315])
        self.assertEqual([many_rings(length, 8) for length in range(1, 6)], [8, 36, 176, 1044, 6560])
        self.assertEqual([many_rings(1, colours) for colours in range(1, 9)], [1, 2, 3, 4, 5, 6, 7, 8])
        self.assertEqual([many_rings(length, 1) for length in range(1, 61)], [1] * 60)
        self.assertEqual(many_rings(59, 2), (2 ** 59 - 2) // 59 + 2)
        self.assertEqual(many_rings(59, 8), (8 ** 59 - 8) // 59 + 8)
        self.assertEqual(many_rings(colours=3, length=4), 24)

    def test_sixty_letters_of_eight_colours(self):
        told = (8 ** 60 + 8 ** 30 + 2 * 8 ** 20 + 2 * 8 ** 15 + 4 * 8 ** 12 + 2 * 8 ** 10
                + 4 * 8 ** 6 + 4 * 8 ** 5 + 8 * 8 ** 4 + 8 * 8 ** 3 + 8 * 8 ** 2 + 16 * 8)
        self.assertEqual(told % 60, 0)
        self.assertEqual(many_rings(60, 8), told // 60)

    def test_trial_of_all_words(self):
        for length, colours in SHORT_SIZES:
            with self.subTest(length=length, colours=colours):
                self.assertEqual(many_rings(length, colours), len(rings_by_trial(length, colours)))

    def test_mean_of_words_that_a_turning_leaves(self):
        for length, colours in ALL_SIZES:
            with self.subTest(length=length, colours=colours):
                total = sum(fixed_by_turning(length, colours, by) for by in range(length))
                told = many_rings(length, colours)
                self.assertIs(type(told), int)
                self.assertEqual(told * length, total)


class ManyPrimes(unittest.TestCase):
    def test_some(self):
        self.assertEqual([many_primes(length, 2) for length in range(1, 13)],
                         [2, 1, 2, 3, 6, 9, 18, 30, 56, 99, 186, 335])
        self.assertEqual([many_primes(length, 3) for length in range(1, 8)], [3, 3, 8, 18, 48, 116, 312])
        self.assertEqual([many_primes(1, colours) for colours in range(1, 9)], [1, 2, 3, 4, 5, 6, 7, 8])
        self.assertEqual([many_primes(length, 1) for length in range(1, 61)], [1] + [0] * 59)
        self.assertEqual(many_primes(59, 8), (8 ** 59 - 8) // 59)
        self.assertEqual(many_primes(colours=3, length=4), 18)

    def test_sixty_letters_of_eight_colours(self):
        told = 8 ** 60 - 8 ** 30 - 8 ** 20 - 8 ** 12 + 8 ** 10 + 8 ** 6 + 8 ** 4 - 8 ** 2
        self.assertEqual(told % 60, 0)
        self.assertEqual(many_primes(60, 8), told // 60)

    def test_trial_of_all_words(self):
        for length, colours in SHORT_SIZES:
            with self.subTest(length=length, colours=colours):
                primes = [
                    ring for ring in rings_by_trial(length, colours)
                    if all(ring < stepped(ring, by) for by in range(1, length))
                ]
                self.assertEqual(many_primes(length, colours), len(primes))

    def test_each_ring_is_a_prime_again_and_again(self):
        for length, colours in ALL_SIZES:
            with self.subTest(length=length, colours=colours):
                parts = [part for part in range(1, length + 1) if length % part == 0]
                told = [many_primes(part, colours) for part in parts]
                self.assertIs(type(told[-1]), int)
                self.assertEqual(sum(told), many_rings(length, colours))
                words = sum(part * many for part, many in zip(parts, told))
                self.assertEqual(words, colours ** length)


class Mirrored(unittest.TestCase):
    def test_some(self):
        self.assertEqual([many_mirrored(length, 2) for length in range(1, 16)],
                         [2, 3, 4, 6, 8, 13, 18, 30, 46, 78, 126, 224, 380, 687, 1224])
        self.assertEqual([many_mirrored(length, 3) for length in range(1, 8)], [3, 6, 10, 21, 39, 92, 198])
        self.assertEqual([many_own(length, 2) for length in range(1, 9)], [2, 3, 4, 6, 8, 12, 16, 24])
        self.assertEqual([many_own(length, 3) for length in range(1, 6)], [3, 6, 9, 18, 27])
        self.assertEqual([many_own(1, colours) for colours in range(1, 9)], [1, 2, 3, 4, 5, 6, 7, 8])
        self.assertEqual([many_mirrored(1, colours) for colours in range(1, 9)], [1, 2, 3, 4, 5, 6, 7, 8])
        self.assertEqual([many_own(length, 1) for length in range(1, 61)], [1] * 60)
        self.assertEqual([many_mirrored(length, 1) for length in range(1, 61)], [1] * 60)
        self.assertEqual(many_own(59, 8), 8 ** 30)
        self.assertEqual(many_own(60, 8), 9 * 8 ** 30 // 2)
        self.assertEqual(many_own(colours=3, length=4), 18)
        self.assertEqual(many_mirrored(colours=3, length=4), 21)

    def test_trial_of_all_words(self):
        for length, colours in SHORT_SIZES:
            with self.subTest(length=length, colours=colours):
                rings = rings_by_trial(length, colours)
                mirrors = [mirror_by_trial(ring) for ring in rings]
                own = [ring for ring, mirror in zip(rings, mirrors) if ring == mirror]
                pairs = {frozenset((ring, mirror)) for ring, mirror in zip(rings, mirrors)}
                self.assertEqual(many_own(length, colours), len(own))
                self.assertEqual(many_mirrored(length, colours), len(pairs))

    def test_mean_of_words_that_a_turning_or_a_mirroring_leaves(self):
        for length, colours in ALL_SIZES:
            with self.subTest(length=length, colours=colours):
                turned = sum(fixed_by_turning(length, colours, by) for by in range(length))
                mirrored = sum(fixed_by_mirroring(length, colours, axis) for axis in range(length))
                self.assertIs(type(many_own(length, colours)), int)
                self.assertIs(type(many_mirrored(length, colours)), int)
                self.assertEqual(many_own(length, colours) * length, mirrored)
                self.assertEqual(many_mirrored(length, colours) * 2 * length, turned + mirrored)


class Refused(unittest.TestCase):
    def test_bad_length(self):
        for count in COUNTS:
            for at, length in enumerate(NOT_LENGTHS):
                with self.subTest(count=count, at=at):
                    for colours in (1, 2, 8):
                        with self.assertRaises(BadNumber):
                            count(length, colours)

    def test_bad_colours(self):
        for count in COUNTS:
            for at, colours in enumerate(NOT_COLOURS):
                with self.subTest(count=count, at=at):
                    for length in (1, 2, 59, 60):
                        with self.assertRaises(BadNumber):
                            count(length, colours)

    def test_both(self):
        for count in COUNTS:
            for length in NOT_LENGTHS:
                for colours in NOT_COLOURS:
                    with self.assertRaises(BadNumber):
                        count(length, colours)

    def test_the_length_is_refused_ahead_of_the_colours(self):
        for count in COUNTS:
            with self.assertRaisesRegex(BadNumber, "length"):
                count(0, 0)
            with self.assertRaisesRegex(BadNumber, "colours"):
                count(1, 0)

    def test_what_is_refused_is_not_changed(self):
        held = [3]
        table = {3: 3}
        for count in COUNTS:
            for thing in (held, table):
                with self.assertRaises(BadNumber):
                    count(thing, 2)
                with self.assertRaises(BadNumber):
                    count(2, thing)
        self.assertEqual(held, [3])
        self.assertEqual(table, {3: 3})


if __name__ == "__main__":
    unittest.main()
