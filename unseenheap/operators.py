"""What words work out of values that are at hand: a value, or that a fault is thrown."""

from unseenheap.values import flag, is_true, thrown, whole

MOST_PARTS = 60000
JOINED = ("text", "list")


def worked_out(things, word, parts):
    """What a word works out of the values of its parts."""
    operator = OPERATORS[word]
    return operator(things, word, parts)


def listed(things, _word, parts):
    """A list."""
    return things.make_thing("list", None, parts)


def added(things, word, parts):
    """A sum, or texts or lists that are joined."""
    one, other = parts
    sort = things.sort_of(one)
    if sort not in JOINED or sort != things.sort_of(other):
        return calculated(things, word, parts)
    joined = things.thing_of(one).parts + things.thing_of(other).parts
    if len(joined) > MOST_PARTS:
        return thrown("overflow")
    return things.make_thing(sort, None, joined)


def calculated(_things, word, parts):
    """What is worked out of two integers."""
    one, other = parts
    if one[0] != "int" or other[0] != "int":
        return thrown("kind")
    if word == "+":
        return whole(one[1] + other[1])
    if word == "-":
        return whole(one[1] - other[1])
    if word == "*":
        return whole(one[1] * other[1])
    if other[1] == 0:
        return thrown("zero")
    quotient = one[1] // other[1]
    return whole(quotient if word == "/" else one[1] - quotient * other[1])


def negative(_things, _word, parts):
    """The minus ahead."""
    if parts[0][0] != "int":
        return thrown("kind")
    return whole(-parts[0][1])


def denied(_things, _word, parts):
    """The word not."""
    return flag(not is_true(parts[0]))


def equal(things, word, parts):
    """Whether two values are equal, or are not."""
    one, other = parts
    if things.sort_of(one) == "text" and things.sort_of(other) == "text":
        answer = things.thing_of(one).parts == things.thing_of(other).parts
    else:
        answer = one == other
    return flag(answer if word == "==" else not answer)


def compared(things, word, parts):
    """Two integers or two texts in their order."""
    one, other = parts
    if one[0] == "int" and other[0] == "int":
        return flag(in_order(word, one[1], other[1]))
    if things.sort_of(one) != "text" or things.sort_of(other) != "text":
        return thrown("kind")
    return flag(in_order(word, things.thing_of(one).parts, things.thing_of(other).parts))


def in_order(word, one, other):
    """Whether a word holds between two integers or strings."""
    if word == "<":
        return one < other
    if word == "<=":
        return one <= other
    if word == ">":
        return one > other
    return one >= other


def item_of(things, _word, parts):
    """An item of a list, or a sign of a text."""
    one, at = parts
    sort = things.sort_of(one)
    if sort not in JOINED or at[0] != "int":
        return thrown("kind")
    inner = things.thing_of(one).parts
    if not 0 <= at[1] < len(inner):
        return thrown("index")
    return inner[at[1]] if sort == "list" else things.make_thing("text", None, inner[at[1]])


def length(things, _word, parts):
    """How long a list or a text is."""
    if things.sort_of(parts[0]) not in JOINED:
        return thrown("kind")
    return ("int", len(things.thing_of(parts[0]).parts))


def tied(things, _word, parts):
    """A tie to a thing."""
    if parts[0][0] != "thing":
        return thrown("kind")
    return things.make_thing("tie", None, [parts[0]])


def worth_of(things, _word, parts):
    """What a tie has."""
    if things.sort_of(parts[0]) != "tie":
        return thrown("kind")
    return things.thing_of(parts[0]).parts[0]


def number_of(_things, _word, parts):
    """A thing's number."""
    if parts[0][0] != "thing":
        return thrown("kind")
    return ("int", parts[0][1])


OPERATORS = {
    "list": listed, "+": added, "-": calculated, "*": calculated, "/": calculated, "mod": calculated,
    "minus": negative, "not": denied, "==": equal, "!=": equal,
    "<": compared, "<=": compared, ">": compared, ">=": compared,
    "item": item_of, "len": length, "weak": tied, "worth": worth_of, "number": number_of,
}
