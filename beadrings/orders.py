"""The rings of a length and so many colours, rising: one behind the other, and numbered from 0."""

from beadrings.counts import many_rings
from beadrings.errors import BadRing, NoRing
from beadrings.rings import is_ring
from beadrings.wholes import is_whole, need_colours, need_few
from beadrings.words import LETTERS, is_of_colours


def next_ring(ring, colours):
    """The next ring of its length with so many colours, None of the last one."""
    need_ring(ring, colours)
    return ring_behind(ring, colours)


def all_rings(length, colours):
    """The list of the rings of the length with so many colours, rising."""
    need_few(many_rings(length, colours))
    rings = []
    ring = LETTERS[0] * length
    while ring is not None:
        rings.append(ring)
        ring = ring_behind(ring, colours)
    return rings


def number_of(ring, colours):
    """The number of the ring among those of its length with so many colours, from 0."""
    need_ring(ring, colours)
    return all_rings(len(ring), colours).index(ring)


def ring_at(number, length, colours):
    """The ring of the number among those of the length with so many colours."""
    rings = all_rings(length, colours)
    if not is_whole(number) or not 0 <= number < len(rings):
        raise NoRing("a ring has a number from 0 to as many as there are less one")
    return rings[number]


def need_ring(thing, colours):
    """Refuse what is no ring, what is no count of colours, and a ring with another letter."""
    if not is_ring(thing):
        raise BadRing("a ring is a word that is the least of its turnings")
    need_colours(colours)
    if not is_of_colours(thing, colours):
        raise BadRing("a ring of so many colours has only the first so many letters")


def ring_behind(ring, colours):
    """The next ring, of what surely is one of so many colours; None of the last one."""
    last = LETTERS[colours - 1]
    word = ring
    # The least greater word with which some ring, perhaps a longer one, begins is
    # a prime told again and again, and it is a ring itself if the last telling is
    # whole. If it is broken off, the next such prime is longer, so that this ends.
    while word.rstrip(last) != "":
        stem = word.rstrip(last)
        prime = stem[:-1] + LETTERS[LETTERS.index(stem[-1]) + 1]
        word = (prime * len(ring))[:len(ring)]
        if len(ring) % len(prime) == 0:
            return word
    return None
