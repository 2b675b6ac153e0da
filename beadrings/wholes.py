"""What is a whole number."""


def is_whole(thing):
    """True if the thing is a whole number, False if it is anything else."""
    # True and False are integers to Python, but no whole numbers here.
    return isinstance(thing, int) and not isinstance(thing, bool)
