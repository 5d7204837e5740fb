"""Units: codes with the texts, the top names and the classes that they tell of."""

from unseenheap.classes import fields_of, method_of
from unseenheap.errors import BadCode, BadUnit, NoClass, NoRow
from unseenheap.kinds import is_integer
from unseenheap.lexing import is_plain
from unseenheap.rowwords import (
    MOST_COUNT, MOST_REFERENCE, is_formed_row, is_number_to, is_row_name, is_tuple_to, laid_by, taken_by,
)

MOST_ROWS = 200000


class Code:
    """A code of rows, with handlers around some of them."""

    def __init__(self, name, params, slots, keeps, rows, handlers):
        if not is_row_name(name):
            raise BadCode("name")
        if not is_number_to(slots, MOST_COUNT):
            raise BadCode("slots")
        if not is_number_to(params, slots):
            raise BadCode("params")
        if not is_number_to(keeps, MOST_COUNT):
            raise BadCode("keeps")
        check_rows(rows)
        if not is_tuple_to(handlers, MOST_COUNT) or not all([is_handler(handler) for handler in handlers]):
            raise BadCode("handlers")
        self.name = name
        self.params = params
        self.slots = slots
        self.keeps = keeps
        self.rows = rows
        self.handlers = handlers

    def __eq__(self, other):
        return (
            isinstance(other, Code) and self.name == other.name and self.params == other.params
            and self.slots == other.slots and self.keeps == other.keeps and self.rows == other.rows
            and self.handlers == other.handlers
        )


class Unit:
    """Codes, code 0 first, with what they tell of."""

    def __init__(self, texts, tops, classes, codes):
        if not are_texts(texts):
            raise BadUnit("texts")
        if not are_tops(tops):
            raise BadUnit("tops")
        check_classes(classes)
        if not are_codes(codes):
            raise BadUnit("codes")
        check_codes_told(tops, classes, codes)
        self.texts = texts
        self.tops = tops
        self.classes = classes
        self.codes = codes

    def __eq__(self, other):
        return (
            isinstance(other, Unit) and self.texts == other.texts and self.tops == other.tops
            and self.classes == other.classes and self.codes == other.codes
        )


def check_rows(rows):
    """Refuse what are no rows of a code."""
    if not is_tuple_to(rows, MOST_ROWS) or not rows:
        raise BadCode("rows")
    for at, row in enumerate(rows):
        if not is_formed_row(row):
            raise BadCode(at)


def is_handler(thing):
    """Whether a thing is a handler."""
    if not isinstance(thing, tuple) or len(thing) != 4:
        return False
    begin, end, at, depth = thing
    if not is_integer(begin) or not is_integer(end) or not 0 <= begin < end:
        return False
    return is_number_to(at, MOST_REFERENCE) and is_number_to(depth, MOST_REFERENCE)


def are_unlike(names):
    """Whether no string stands among others twice."""
    return len({name: True for name in names}) == len(names)


def are_texts(thing):
    """Whether a thing is the tuple of a unit's texts."""
    return is_tuple_to(thing, MOST_COUNT) and all([is_plain(text) for text in thing]) and are_unlike(thing)


def are_tops(thing):
    """Whether a thing is the tuple of a unit's top names."""
    if not is_tuple_to(thing, MOST_COUNT) or not all([is_top(pair) for pair in thing]):
        return False
    return are_unlike([name for name, _ in thing])


def is_top(thing):
    """Whether a thing is a top name with the number of its code, or None."""
    if not isinstance(thing, tuple) or len(thing) != 2 or not is_row_name(thing[0]):
        return False
    return thing[1] is None or is_number_to(thing[1], MOST_REFERENCE)


def check_classes(classes):
    """Refuse what are no classes of a unit."""
    if not is_tuple_to(classes, MOST_COUNT):
        raise BadUnit("classes")
    for number, thing in enumerate(classes):
        if not is_class(thing, number) or has_elders_field(classes, number):
            raise BadUnit(number)


def is_class(thing, number):
    """Whether a thing is made as a class with so many ahead of it is."""
    if not isinstance(thing, tuple) or len(thing) != 4:
        return False
    name, elder, fields_told, methods = thing
    if not is_row_name(name) or elder is not None and not is_number_to(elder, number - 1):
        return False
    if not isinstance(fields_told, tuple) or not all([is_row_name(field) for field in fields_told]):
        return False
    return are_unlike(fields_told) and are_methods(methods)


def has_elders_field(classes, number):
    """Whether a class has a field that its elder has, too."""
    own = {field: True for field in classes[number][2]}
    at = classes[number][1]
    while own and at is not None:
        if any([field in own for field in classes[at][2]]):
            return True
        at = classes[at][1]
    return False


def are_methods(thing):
    """Whether a thing is the tuple of a class's methods, ascending by their names."""
    if not isinstance(thing, tuple):
        return False
    ahead = None
    for pair in thing:
        if not isinstance(pair, tuple) or len(pair) != 2 or not is_row_name(pair[0]):
            return False
        if not is_number_to(pair[1], MOST_REFERENCE) or ahead is not None and pair[0] <= ahead:
            return False
        ahead = pair[0]
    return True


def are_codes(thing):
    """Whether a thing is a tuple of codes, of which there must be one."""
    return is_tuple_to(thing, MOST_COUNT) and len(thing) > 0 and all([isinstance(code, Code) for code in thing])


def check_codes_told(tops, classes, codes):
    """Refuse codes that are not such as they are told to be."""
    if codes[0].params > 0 or codes[0].keeps > 0:
        raise BadUnit("top")
    for k, (_, code) in enumerate(tops):
        if code is not None and (not 0 < code < len(codes) or codes[code].keeps > 0):
            raise BadUnit(("top", k))
    for number, (_, _, _, methods) in enumerate(classes):
        for name, code in methods:
            if code >= len(codes) or codes[code].params == 0 or codes[code].keeps > 0:
                raise BadUnit(("method", number, name))


def is_row(thing):
    """Whether a thing is a row of a code."""
    return is_formed_row(thing)


def takes(row):
    """How many values a row takes from the pile."""
    if not is_formed_row(row):
        raise NoRow()
    return taken_by(row)


def lays(row):
    """How many values a row lays on the pile."""
    if not is_formed_row(row):
        raise NoRow()
    return laid_by(row)


def check_class(unit, c):
    """Refuse what is no number of a class of a unit."""
    if not is_number_to(c, len(unit.classes) - 1):
        raise NoClass()


def fields(unit, c):
    """The tuple of the names of a class's fields, its elder's first."""
    check_class(unit, c)
    return fields_of(unit.classes, c)


def method(unit, c, name):
    """The number of the code by which a class answers to a name, or None."""
    check_class(unit, c)
    return method_of(unit.classes, c, name) if is_row_name(name) else None
