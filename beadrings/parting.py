"""Primes, and words parted into primes."""

from beadrings.words import is_word, need_word, turnings


def parts_of(word):
    """The list of the primes of the word, none of them greater than the one ahead of it."""
    need_word(word)
    parts = []
    for letter in word:
        part = letter
        # A prime and a greater prime behind it are one prime together, so that
        # two of them are joined as long as the one behind is the greater one.
        while parts and parts[-1] < part:
            part = parts.pop() + part
        parts.append(part)
    return parts


def is_prime(thing):
    """True if the thing is a prime, False if it is anything else."""
    return is_word(thing) and all([thing < reading for reading in turnings(thing)[1:]])
