"""Whole numbers, and which of them are lengths, counts of colours, or few enough to be told one by one."""

from beadrings.errors import BadNumber, TooMany

MOST_LETTERS = 60
MOST_COLOURS = 8
MOST_TOLD = 3000


def is_whole(thing):
    """True if the thing is a whole number, False if it is anything else."""
    # True and False are integers to Python, but no whole numbers here.
    return isinstance(thing, int) and not isinstance(thing, bool)


def need_length(thing):
    """Refuse with BadNumber what is no length."""
    if not is_whole(thing) or not 1 <= thing <= MOST_LETTERS:
        raise BadNumber("a length is a whole number from 1 to 60")


def need_colours(thing):
    """Refuse with BadNumber what is no count of colours."""
    if not is_whole(thing) or not 1 <= thing <= MOST_COLOURS:
        raise BadNumber("colours are a whole number from 1 to 8")


def need_few(many):
    """Refuse with TooMany more than are told one by one."""
    if many > MOST_TOLD:
        raise TooMany("at most 3000 are told one by one")
