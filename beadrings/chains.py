"""The long word, round which each word of a length can be read at just one place."""

from beadrings.counts import many_words
from beadrings.errors import BadWord
from beadrings.orders import all_rings
from beadrings.rings import period
from beadrings.wholes import need_colours, need_few, need_length
from beadrings.words import is_of_colours, is_word


def long_word(length, colours):
    """All primes of so many colours whose length goes into the length, rising, one behind the other."""
    need_length(length)
    need_colours(colours)
    need_few(many_words(length, colours))
    # Each ring of the length is one of these primes told again and again.
    primes = [ring[:period(ring)] for ring in all_rings(length, colours)]
    return "".join(sorted(primes))


def place_of(text, length, colours):
    """The place in the long word from where on the text is read round it, from 0."""
    told = long_word(length, colours)
    if not is_word(text) or len(text) != length or not is_of_colours(text, colours):
        raise BadWord("a word of the length and of so many colours is looked for")
    # Round the long word of one colour, which is one letter, a text is read
    # more than once.
    return (told * (length + 1)).find(text)
