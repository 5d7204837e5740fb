"""Values, as they are told: tuples of a word and what it tells; things are told by their numbers alone."""

from unseenheap.words import GREATEST_INTEGER, LEAST_INTEGER

FAULTS = ("kind", "index", "zero", "overflow", "field", "method", "count", "deep", "stuck")
NIL = ("nil",)
TRUE = ("bool", True)
FALSE = ("bool", False)


def fault(name):
    """The fault of a name."""
    return ("fault", name)


def thrown(name):
    """What tells that a fault is thrown; it is no value."""
    return ("thrown", name)


def is_true(value):
    """Whether a value is TRUE."""
    return value != NIL and value != FALSE


def whole(number):
    """An integer as a value, or that there is none."""
    if not LEAST_INTEGER <= number <= GREATEST_INTEGER:
        return thrown("overflow")
    return ("int", number)


def flag(answer):
    """True or false as a value."""
    return TRUE if answer else FALSE


def plain_line(value):
    """The line that say puts out for a value that is no thing."""
    word = value[0]
    if word == "int":
        return str(value[1])
    if word == "bool":
        return "true" if value[1] else "false"
    if word == "nil":
        return "nil"
    return word + " " + str(value[1])
