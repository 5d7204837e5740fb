"""Rows that work something out of the values at the end of a pile.

Each takes values, lays what comes out of them, and tells None; or it tells the name of the fault that it throws, and
what it would have taken is left to be cut off. What it takes is left on the pile while a thing is made, too, as things
may be moved then.
"""

from unseenheap.laying import AHEAD, is_things
from unseenheap.operators import MOST_PARTS
from unseenheap.words import (
    FALSE_WORD, GREATEST_INTEGER, INTEGER_TAG, LEAST_INTEGER, NIL_WORD, TAGS, THREAD_TAG, TRUE_WORD,
)


def sort_of_word(core, word):
    """The sort of a word's thing, "" if it is no thing's."""
    return core.store.sort_at(word // TAGS) if is_things(word) else ""


def is_integers(word):
    """Whether a word is an integer's."""
    return word & (TAGS - 1) == INTEGER_TAG


def is_false(word):
    """Whether a word is that of a FALSE value."""
    return word == NIL_WORD or word == FALSE_WORD


def flag_word(answer):
    """The word of true or false."""
    return TRUE_WORD if answer else FALSE_WORD


def lay_for(pile, many, word):
    """Take values, and lay one."""
    del pile[len(pile) - many:]
    pile.append(word)


def lay_integer(pile, many, number):
    """Take values, and lay an integer, if there is such a value."""
    if not LEAST_INTEGER <= number <= GREATEST_INTEGER:
        return "overflow"
    lay_for(pile, many, number * TAGS + INTEGER_TAG)
    return None


def do_number_of(core, frame, _row):
    """The number of a thing."""
    word = frame.pile[-1]
    if not is_things(word):
        return "kind"
    return lay_integer(frame.pile, 1, core.store.number_at(word // TAGS))


def do_length(core, frame, _row):
    """How long a text or a list is."""
    word = frame.pile[-1]
    if sort_of_word(core, word) not in ("text", "list"):
        return "kind"
    return lay_integer(frame.pile, 1, core.store.size_at(word // TAGS))


def do_weak(core, frame, _row):
    """A new tie to a thing."""
    if not is_things(frame.pile[-1]):
        return "kind"
    core.store.reserve(1 + AHEAD)
    lay_for(frame.pile, 1, core.store.place("tie", [frame.pile[-1]]))
    return None


def do_worth(core, frame, _row):
    """What a tie has."""
    word = frame.pile[-1]
    if sort_of_word(core, word) != "tie":
        return "kind"
    lay_for(frame.pile, 1, core.store.read(word // TAGS, 0))
    return None


def do_negative(_core, frame, _row):
    """The negative of an integer."""
    word = frame.pile[-1]
    if not is_integers(word):
        return "kind"
    return lay_integer(frame.pile, 1, -(word // TAGS))


def do_not(_core, frame, _row):
    """Whether a value is FALSE."""
    lay_for(frame.pile, 1, flag_word(is_false(frame.pile[-1])))
    return None


def do_add(core, frame, row):
    """A sum, or texts or lists that are joined."""
    one, other = frame.pile[-2:]
    sort = sort_of_word(core, one)
    if sort not in ("text", "list") or sort != sort_of_word(core, other):
        return do_calculate(core, frame, row)
    many = core.store.size_at(one // TAGS) + core.store.size_at(other // TAGS)
    if many > MOST_PARTS:
        return "overflow"
    core.store.reserve(many + AHEAD)
    one, other = frame.pile[-2:]
    joined = [*core.store.read_all(one // TAGS), *core.store.read_all(other // TAGS)]
    lay_for(frame.pile, 2, core.store.place(sort, joined))
    return None


def do_calculate(_core, frame, row):
    """What is worked out of two integers."""
    one, other = frame.pile[-2:]
    if not is_integers(one) or not is_integers(other):
        return "kind"
    one = one // TAGS
    other = other // TAGS
    if row[0] == "add":
        return lay_integer(frame.pile, 2, one + other)
    if row[0] == "sub":
        return lay_integer(frame.pile, 2, one - other)
    if row[0] == "mul":
        return lay_integer(frame.pile, 2, one * other)
    if other == 0:
        return "zero"
    return lay_integer(frame.pile, 2, one // other if row[0] == "div" else one - one // other * other)


def do_equal(core, frame, _row):
    """Whether two values are equal."""
    one, other = frame.pile[-2:]
    answer = one == other
    if not answer and sort_of_word(core, one) == "text" and sort_of_word(core, other) == "text":
        answer = core.store.words_at(one // TAGS) == core.store.words_at(other // TAGS)
    lay_for(frame.pile, 2, flag_word(answer))
    return None


def do_compare(core, frame, row):
    """Whether two integers or two texts are in order."""
    one, other = frame.pile[-2:]
    if not is_integers(one) or not is_integers(other):
        if sort_of_word(core, one) != "text" or sort_of_word(core, other) != "text":
            return "kind"
        # Words of signs are in the order of these.
        one = core.store.words_at(one // TAGS)
        other = core.store.words_at(other // TAGS)
    lay_for(frame.pile, 2, flag_word(one < other if row[0] == "lt" else one <= other))
    return None


def place_in(core, word, at, sorts):
    """The name of the fault for which a thing of these sorts has no such place, or None."""
    if sort_of_word(core, word) not in sorts or not is_integers(at):
        return "kind"
    return None if 0 <= at // TAGS < core.store.size_at(word // TAGS) else "index"


def do_at(core, frame, _row):
    """An item of a list, or a new text of a sign."""
    word, at = frame.pile[-2:]
    fault = place_in(core, word, at, ("text", "list"))
    if fault is not None:
        return fault
    if sort_of_word(core, word) == "list":
        lay_for(frame.pile, 2, core.store.read(word // TAGS, at // TAGS))
    else:
        core.store.reserve(1 + AHEAD)
        sign = core.store.read(frame.pile[-2] // TAGS, at // TAGS)
        lay_for(frame.pile, 2, core.store.place("text", [sign]))
    return None


def do_put_at(core, frame, _row):
    """Let an item of a list be another one."""
    word, at, value = frame.pile[-3:]
    fault = place_in(core, word, at, ("list",))
    if fault is None:
        core.store.write(word // TAGS, at // TAGS, value)
        del frame.pile[-3:]
    return fault


def field_in(core, word, name):
    """The place of a field in an object, or the name of the fault for which there is none."""
    if sort_of_word(core, word) != "object":
        return "kind"
    number = core.store.read(word // TAGS, 0) // TAGS
    return core.plan.field_places(number).get(name, "field")


def do_get(core, frame, row):
    """A field."""
    word = frame.pile[-1]
    place = field_in(core, word, row[1])
    if isinstance(place, str):
        return place
    lay_for(frame.pile, 1, core.store.read(word // TAGS, place))
    return None


def do_put(core, frame, row):
    """Let a field have another value."""
    word, value = frame.pile[-2:]
    place = field_in(core, word, row[1])
    if isinstance(place, str):
        return place
    core.store.write(word // TAGS, place, value)
    del frame.pile[-2:]
    return None


def do_spawn(core, frame, _row):
    """Begin a thread."""
    word = frame.pile[-1]
    if sort_of_word(core, word) != "function":
        return "kind"
    code = core.store.read(word // TAGS, 0) // TAGS
    if core.plan.unit.codes[code].params > 0:
        return "count"
    lay_for(frame.pile, 1, core.begin_strand(code, word) * TAGS + THREAD_TAG)
    return None


WORKING = {
    "get": do_get, "put": do_put, "at": do_at, "putat": do_put_at, "len": do_length, "weak": do_weak,
    "worth": do_worth, "number": do_number_of, "neg": do_negative, "not": do_not, "add": do_add, "sub": do_calculate,
    "mul": do_calculate, "div": do_calculate, "rem": do_calculate, "eq": do_equal, "lt": do_compare, "le": do_compare,
    "spawn": do_spawn,
}
