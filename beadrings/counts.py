"""How many rings, primes and mirrored rings there are, without telling them."""

from math import gcd

from beadrings.wholes import need_colours, need_length


def many_words(length, colours):
    """The colours to the power of the length."""
    many = 1
    for _ in range(length):
        many = many * colours
    return many


def many_rings(length, colours):
    """How many rings of the length and so many colours there are."""
    need_length(length)
    need_colours(colours)
    total = 0
    for part in divisors(length):
        total = total + many_coprime(part) * many_words(length // part, colours)
    return total // length


def many_primes(length, colours):
    """How many primes of the length and so many colours there are."""
    need_length(length)
    need_colours(colours)
    # Each word is a turning of one prime told again and again, and a prime has
    # as many turnings as letters. What no shorter prime takes is of this length.
    left = many_words(length, colours)
    for part in divisors(length):
        if part < length:
            left = left - part * many_primes(part, colours)
    return left // length


def many_mirrored(length, colours):
    """How many rings there are, if a ring and its mirror are counted as one."""
    # A ring that is its own mirror is counted once already, any other one twice.
    return (many_rings(length, colours) + many_own(length, colours)) // 2


def many_own(length, colours):
    """How many rings are their own mirror."""
    need_length(length)
    need_colours(colours)
    # They are as many as the words that an axis mirrors into themselves, in the
    # mean over all axes of the ring. Of an odd length, each axis goes through
    # one bead; of an even one, half of them go through two, the others through none.
    half = many_words(length // 2, colours)
    if length % 2 == 1:
        return half * colours
    return (half + half * colours) // 2


def divisors(number):
    """The list of the numbers that go into the number, rising."""
    return [part for part in range(1, number + 1) if number % part == 0]


def many_coprime(number):
    """How many numbers from 1 to the number have no divisor in common with it but 1."""
    return len([part for part in range(1, number + 1) if gcd(part, number) == 1])
