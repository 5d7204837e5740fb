"""The rows of a code: their words, what stands behind these, and what they take from the pile and lay on it."""

from unseenheap.kinds import is_integer
from unseenheap.values import FAULTS
from unseenheap.words import GREATEST_INTEGER, LEAST_INTEGER

MOST_REFERENCE = 10 ** 6
MOST_COUNT = 20000
MOST_NAME = 41
# For each word the sorts of what stands behind it, how many values it takes, and how many it lays; a count that
# stands behind the word comes to what it takes.
ROWS = {
    "push": (("value",), 0, 1), "text": (("reference",), 0, 1),
    "load": (("reference",), 0, 1), "store": (("reference",), 1, 0), "cell": (("reference",), 0, 0),
    "peek": (("reference",), 0, 1), "poke": (("reference",), 1, 0),
    "see": (("reference",), 0, 1), "set": (("reference",), 1, 0),
    "name": (("reference",), 0, 1), "keep": (("reference",), 1, 0),
    "fun": (("reference", "cells"), 0, 1),
    "new": (("reference",), 0, 1), "get": (("name",), 1, 1), "put": (("name",), 2, 0),
    "list": (("count",), 0, 1), "at": ((), 2, 1), "putat": ((), 3, 0),
    "len": ((), 1, 1), "weak": ((), 1, 1), "worth": ((), 1, 1), "number": ((), 1, 1), "neg": ((), 1, 1),
    "not": ((), 1, 1), "add": ((), 2, 1), "sub": ((), 2, 1), "mul": ((), 2, 1), "div": ((), 2, 1), "rem": ((), 2, 1),
    "eq": ((), 2, 1), "lt": ((), 2, 1), "le": ((), 2, 1),
    "jump": (("reference",), 0, 0), "skip": (("reference",), 1, 0),
    "call": (("count",), 1, 1), "send": (("name", "count"), 1, 1), "up": (("reference", "name", "count"), 1, 1),
    "give": ((), 1, 0), "throw": ((), 1, 0), "say": ((), 1, 0), "pop": ((), 1, 0), "dup": ((), 1, 2),
    "spawn": ((), 1, 1), "join": ((), 1, 1), "tick": ((), 0, 0),
}


def is_formed_row(thing):
    """Whether a thing is a row."""
    if not isinstance(thing, tuple) or not thing or not isinstance(thing[0], str) or thing[0] not in ROWS:
        return False
    sorts, _, _ = ROWS[thing[0]]
    if len(thing) != len(sorts) + 1:
        return False
    return all([is_part(sort, part) for sort, part in zip(sorts, thing[1:])])


def is_part(sort, thing):
    """Whether a thing may stand behind a word where this sort does."""
    if sort == "value":
        return is_told(thing)
    if sort == "name":
        return is_row_name(thing)
    if sort == "cells":
        return is_tuple_to(thing, MOST_COUNT) and all([is_kept_cell(pair) for pair in thing])
    return is_number_to(thing, MOST_COUNT if sort == "count" else MOST_REFERENCE)


def is_number_to(thing, most):
    """Whether a thing is a number, and no greater than another one."""
    return is_integer(thing) and 0 <= thing <= most


def is_tuple_to(thing, most):
    """Whether a thing is a tuple of at most so many parts."""
    return isinstance(thing, tuple) and len(thing) <= most


def is_row_name(thing):
    """Whether a thing may be the name of a code, a class, a field or a method."""
    return isinstance(thing, str) and len(thing) <= MOST_NAME and "\n" not in thing


def is_told(thing):
    """Whether a thing is a told value that may be pushed."""
    if not isinstance(thing, tuple) or not thing or not isinstance(thing[0], str):
        return False
    if len(thing) == 1:
        return thing[0] == "nil"
    word, part, *more = thing
    if more:
        return False
    if word == "int":
        return is_integer(part) and LEAST_INTEGER <= part <= GREATEST_INTEGER
    if word == "bool":
        return isinstance(part, bool)
    return word == "fault" and isinstance(part, str) and part in FAULTS


def is_kept_cell(thing):
    """Whether a thing tells a cell that a function keeps: that of a slot, or one that the function called keeps."""
    if not isinstance(thing, tuple) or len(thing) != 2:
        return False
    return is_number_to(thing[0], 1) and is_number_to(thing[1], MOST_REFERENCE)


def taken_by(row):
    """How many values a row takes."""
    sorts, many, _ = ROWS[row[0]]
    return many + sum([part for sort, part in zip(sorts, row[1:]) if sort == "count"])


def laid_by(row):
    """How many values a row lays."""
    _, _, many = ROWS[row[0]]
    return many
