"""What the tests hand in: words, and what is none."""

from itertools import product

LETTERS = "abcdefgh"


class Odd:
    """A thing that can be asked nothing."""

    def __eq__(self, other):
        raise RuntimeError("compared")

    def __len__(self):
        raise RuntimeError("measured")

    def __iter__(self):
        raise RuntimeError("iterated")

    def __bool__(self):
        raise RuntimeError("tested")

    def __repr__(self):
        raise RuntimeError("shown")


NOT_TEXTS = [
    None, True, False, 0, 1, -1, 61, 10 ** 3000, 1.5, float("nan"), 1j,
    b"", b"a", b"abc", bytearray(b"abc"), [], ["a"], ["a", "b"], ["abc"], (), ("a",), ("a", "b"),
    {}, {"a": "b"}, {"a", "b"}, frozenset("ab"), range(3), iter("ab"), object(), str, len, Odd(), ValueError("a"),
]

WRONG_TEXTS = [
    "", "a" * 61, "ab" * 31, "a" * 100000,
    "i", "z", "`", "@", "A", "H", "I", "AB", "0", "1", " ", "-", "~",
    "abci", "iabc", "abic", "ab`", "aBc", "Abc", "abC", "abH",
    "\n", "abc\n", "\nabc", "ab\nc", "\r", "abc\r", "abc\r\n", "a\n" * 20,
    "abc ", " abc", "a b", "a" * 60 + "\n", "a" * 59 + "i", "i" + "a" * 59, "a,b", "a\tb", "a\0",
]

NOT_WORDS = NOT_TEXTS + WRONG_TEXTS

NOT_WHOLE = [
    None, True, False, 0.0, 1.0, 1.5, float("nan"), float("inf"), 1j,
    "", "0", "1", "a", b"1", [], [1], (), (1,), {}, {1: 1}, {1}, range(3), object(), int, Odd(),
]

BEYOND_ALL = [10 ** 20, -10 ** 20, 10 ** 3999, -10 ** 3999]

NOT_LENGTHS = NOT_WHOLE + [0, -1, 61, 62, -60] + BEYOND_ALL

NOT_COLOURS = NOT_WHOLE + [0, -1, 9, 10, -8] + BEYOND_ALL

NOT_RINGS = NOT_WORDS + ["ba", "aba", "baba", "hg", "abca", "b" + "a" * 59, "h" * 59 + "a", "ab" * 29 + "aa"]

LONG_WORDS = [
    "a" * 60, "h" * 60, "ab" * 30, "abcdefgh" * 7 + "abcd", "a" * 59 + "b", "b" + "a" * 59, "h" * 59 + "a",
    "abc" * 20, "abc" * 19 + "abd", "abb" + "abc" * 19, "abcdef" * 5 + "abcdeg" * 5, "a" * 30 + "b" * 30,
    "abcde" * 12, "abcde" * 11 + "abcda", "hgfedcba" * 7 + "hgfe",
]


def words_of(length, letters):
    return ["".join(row) for row in product(letters, repeat=length)]


SHORT_WORDS = (
    [word for length in range(1, 9) for word in words_of(length, "ab")]
    + [word for length in range(1, 6) for word in words_of(length, "abc")]
    + words_of(1, LETTERS) + words_of(2, LETTERS)
    + ["gh", "hg", "hhg", "ghg", "abcdefgh", "hgfedcba", "hababg", "cabcab", "abcabcabd", "dabcabcabc"]
)

WORDS = SHORT_WORDS + LONG_WORDS


def stepped(word, by):
    """The word turned, letter by letter, as the document tells it."""
    while by > 0:
        word = word[1:] + word[0]
        by = by - 1
    while by < 0:
        word = word[-1] + word[:-1]
        by = by + 1
    return word


def rings_by_trial(length, colours):
    """All rings, rising: what is least among its turnings, of all words."""
    return [
        word for word in words_of(length, LETTERS[:colours])
        if all(word <= stepped(word, by) for by in range(1, length))
    ]


# The counts of colours with the lengths for which a trial of all words is quick.
SHORT_SIZES = (
    [(length, 1) for length in range(1, 61)] + [(length, 2) for length in range(1, 13)]
    + [(length, 3) for length in range(1, 8)] + [(length, 4) for length in range(1, 7)]
    + [(length, 5) for length in range(1, 6)]
    + [(length, colours) for colours in (6, 7, 8) for length in range(1, 5)]
)

ALL_SIZES = [(length, colours) for length in range(1, 61) for colours in range(1, 9)]
