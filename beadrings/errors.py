"""The refusals: each kind of them stands straight under BeadError."""


class BeadError(ValueError):
    """Any refusal."""


class BadNumber(BeadError):
    """What should be a number, and is none that can be taken."""


class BadRing(BeadError):
    """What should be a ring, and is none that can be taken."""


class BadWord(BeadError):
    """What should be a word, and is none that can be taken."""


class NoRing(BeadError):
    """A number under which no ring stands."""


class TooMany(BeadError):
    """More than are told one by one."""
