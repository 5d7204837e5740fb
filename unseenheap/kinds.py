"""What kind of value a thing is."""


def is_integer(thing):
    """Whether a thing is an integer; a flag is none."""
    return isinstance(thing, int) and not isinstance(thing, bool)
