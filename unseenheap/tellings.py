"""Words of the heap as told values, and told values as words."""

from unseenheap.following import come_to
from unseenheap.signs import text_of_words
from unseenheap.values import FAULTS, NIL, flag
from unseenheap.words import (
    FALSE_WORD, FAULT_TAG, FLAG_TAG, INTEGER_TAG, NIL_TAG, NIL_WORD, TAGS, THING_TAG, THREAD_TAG, TRUE_WORD,
)


def word_of_value(value):
    """The word of a told value that is no thing and no thread."""
    if value[0] == "int":
        return value[1] * TAGS + INTEGER_TAG
    if value[0] == "bool":
        return TRUE_WORD if value[1] else FALSE_WORD
    return NIL_WORD if value[0] == "nil" else word_of_fault(value[1])


def word_of_fault(name):
    """The word of a fault."""
    return FAULTS.index(name) * TAGS + FAULT_TAG


def value_of_word(store, word):
    """The told value of a word."""
    tag, payload = word & (TAGS - 1), word // TAGS
    if tag == THING_TAG:
        return ("thing", store.number_at(store.settled(payload)))
    if tag == INTEGER_TAG:
        return ("int", payload)
    if tag == FLAG_TAG:
        return flag(payload == 1)
    if tag == NIL_TAG:
        return NIL
    return ("thread", payload) if tag == THREAD_TAG else ("fault", FAULTS[payload])


def values_of_words(store, found):
    """The tuple of the told values of words."""
    return tuple([value_of_word(store, word) for word in found])


def parts_told(store, at):
    """What a thing has: a text's string, or told values, ahead of them an object's class or a function's code."""
    sort = store.sort_at(at)
    inner = store.words_at(at)
    if sort == "text":
        return text_of_words(inner)
    if sort == "object" or sort == "function":
        return (inner[0] // TAGS, *values_of_words(store, inner[1:]))
    return values_of_words(store, inner)


def things_told(store, begins):
    """The tuple of (number, sort, parts) of all things that can be come to from words."""
    found = come_to(store, begins, True)
    return tuple([(number, store.sort_at(found[number]), parts_told(store, found[number])) for number in sorted(found)])
