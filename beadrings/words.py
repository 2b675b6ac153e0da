"""Words: texts of 1 to 60 letters a to h, turned and mirrored."""

from beadrings.errors import BadNumber, BadWord
from beadrings.wholes import MOST_LETTERS, is_whole

LETTERS = "abcdefgh"


def is_word(thing):
    """True if the thing is a word, False if it is anything else."""
    if not isinstance(thing, str):
        return False
    # The length goes first, so that a huge text is not read through.
    if not 1 <= len(thing) <= MOST_LETTERS:
        return False
    return all([letter in LETTERS for letter in thing])


def need_word(thing):
    """Refuse with BadWord what is no word."""
    if not is_word(thing):
        raise BadWord("a word is a text of 1 to 60 letters a to h")


def is_of_colours(word, colours):
    """True if the word has no letters but the first so many, else False."""
    return all([letter in LETTERS[:colours] for letter in word])


def turned(word, by):
    """The word as it reads from the letter on that stands so many places behind its first one."""
    need_word(word)
    if not is_whole(by):
        raise BadNumber("a word is turned by a whole number")
    start = by % len(word)
    return word[start:] + word[:start]


def turnings(word):
    """The list of the word turned by 0, 1 and so on, as many as it has letters."""
    need_word(word)
    return [turned(word, by) for by in range(len(word))]


def mirrored(word):
    """The letters of the word from the last to the first."""
    need_word(word)
    return word[::-1]
