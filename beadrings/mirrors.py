"""Rings mirrored."""

from beadrings.rings import ring_of
from beadrings.words import mirrored


def mirror_of(word):
    """The mirror of the ring of the word."""
    # A turning of the word mirrored is the word turned the other way, mirrored:
    # so the word itself has the same mirror as its ring.
    return ring_of(mirrored(word))


def is_own_mirror(word):
    """True if the ring of the word is its own mirror, else False."""
    return mirror_of(word) == ring_of(word)
