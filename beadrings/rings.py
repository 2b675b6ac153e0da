"""Rings: words that are the least of their own turnings."""

from beadrings.words import is_word, need_word, turnings


def ring_of(word):
    """The ring of the word: the least of all its turnings."""
    return min(turnings(word))


def is_ring(thing):
    """True if the thing is a ring, False if it is anything else."""
    return is_word(thing) and ring_of(thing) == thing


def are_one(one, other):
    """True if the two words are one ring, else False."""
    return turning_of(one, other) is not None


def turning_of(one, other):
    """The least number from 0 on by which the one turned is the other, None without one."""
    need_word(one)
    need_word(other)
    for by, reading in enumerate(turnings(one)):
        if reading == other:
            return by
    return None


def period(word):
    """The least number from 1 on by which the word turned is the word again."""
    need_word(word)
    # In the word told twice, a reading from a place on is the word turned by that place.
    twice = word + word
    return twice.find(word, 1)
