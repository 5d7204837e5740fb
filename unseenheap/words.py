"""The words of a heap: integers that are 8 times a payload, and a tag."""

from unseenheap.errors import NoWord
from unseenheap.kinds import is_integer

TAGS = 8
THING_TAG = 0
INTEGER_TAG = 1
FLAG_TAG = 2
NIL_TAG = 3
FAULT_TAG = 4
THREAD_TAG = 5
NIL_WORD = 3
FALSE_WORD = 2
TRUE_WORD = 10
LEAST_INTEGER = -2 ** 59
GREATEST_INTEGER = 2 ** 59 - 1
# The greatest payload of each tag, None for tags without one: thing, integer, flag, nil, fault, thread.
GREATEST = (None, GREATEST_INTEGER, 1, 0, 8, None)


def word(tag, payload):
    """The word with a tag and a payload."""
    if not is_of_tag(tag, payload):
        raise NoWord()
    return TAGS * payload + tag


def tag_of(thing):
    """The tag of a word."""
    if not is_word(thing):
        raise NoWord()
    return thing - thing // TAGS * TAGS


def payload_of(thing):
    """The payload of a word."""
    if not is_word(thing):
        raise NoWord()
    return thing // TAGS


def is_word(thing):
    """Whether a thing is a word."""
    if not is_integer(thing):
        return False
    return is_of_tag(thing - thing // TAGS * TAGS, thing // TAGS)


def is_of_tag(tag, payload):
    """Whether a thing is a tag, and another one a payload that may stand with it."""
    if not is_integer(tag) or not is_integer(payload) or not 0 <= tag < len(GREATEST):
        return False
    least = LEAST_INTEGER if tag == INTEGER_TAG else 0
    return payload >= least and (GREATEST[tag] is None or payload <= GREATEST[tag])
