"""How tests run machines: in rooms of many kinds, with deeds of the collector at all ticks, beside the model."""

import random

from unseenheap.machine import Machine
from unseenheap.rooms import Room
from unseenheap.units import Code, Unit

COLLECTING = ("young", "turn", "whole", ("steps", 0), ("steps", 1), ("steps", 2), ("steps", 10 ** 9))
ROOMS = (Room(8, 3000, 0), Room(8, 3000, 1), Room(3000, 3000, 2), Room(40, 4000, 1000))


def with_ticks(unit):
    """The unit with a tick behind each row: its deeds can be done between all rows."""
    return Unit(unit.texts, unit.tops, unit.classes, tuple(code_with_ticks(code) for code in unit.codes))


def code_with_ticks(code):
    rows = []
    for row in code.rows:
        rows += [(row[0], 2 * row[1]) if row[0] in ("jump", "skip") else row, ("tick",)]
    handlers = tuple((2 * begin, 2 * end, 2 * at, depth) for begin, end, at, depth in code.handlers)
    return Code(code.name, code.params, code.slots, code.keeps, tuple(rows), handlers)


def without_collecting(moments):
    return tuple((tick, deed) for tick, deed in moments if deed in ("switch", "sweep"))


def drawn_deeds(seed, most, seen=0.1):
    """Moments with deeds at nearly each tick; the part seen of them are switches and sweeps."""
    chance = random.Random(seed)
    found = []
    for tick in range(1, most):
        for _ in range(chance.choice([0, 1, 1, 2])):
            found.append((tick, chance.choice(["switch", "sweep"]) if chance.random() < seen else chance.choice(COLLECTING)))
    return tuple(found)


def all_told(machine):
    return (machine.ticks(), machine.is_over(), machine.lines(), machine.ends(), machine.made())


def machines_for(unit, moments, rooms=ROOMS):
    """Machines with the deeds of the collector and without them, in rooms and in none."""
    found = [Machine(unit, None, without_collecting(moments)), Machine(unit, None, moments)]
    return found + [Machine(unit, room, moments) for room in rooms] + [Machine(unit, rooms[0], without_collecting(moments))]


def unit_of_rows(*rows, slots=3, handlers=(), texts=("", "ab"), tops=(("a", None), ("f", 1)), codes=None):
    """A unit the top of which has these rows behind its tick, and then gives nil."""
    classes = (("A", None, ("x",), (("m", 3), ("n", 4))), ("B", 0, ("y", "z"), (("m", 4),)))
    simple = (("tick",), ("push", ("nil",)), ("give",))
    others = codes or (
        Code("f", 0, 0, 0, (("tick",), ("push", ("int", 7)), ("give",)), ()),
        Code("g", 1, 2, 2, (("tick",), ("load", 0), ("see", 0), ("see", 1), ("list", 3), ("give",)), ()),
        Code("A.m", 1, 1, 0, (("tick",), ("load", 0), ("give",)), ()),
        Code("B.m", 2, 3, 0, (("tick",), ("load", 1), ("load", 0), ("list", 2), ("throw",)), ()),
        Code("h", 2, 2, 0, simple, ()),
    )
    top = Code("top", 0, slots, 0, (("tick",), *rows, ("push", ("nil",)), ("give",)), handlers)
    return Unit(texts, tops, classes, (top, *others))


def outcome_unit(*rows, slots=3, texts=("", "ab")):
    """A unit that says what rows lay at last, or what they throw, and the word thrown then."""
    many = len(rows)
    inner = (*rows, ("say",), ("jump", many + 6), ("say",), ("text", len(texts)), ("say",))
    return unit_of_rows(*inner, slots=slots, texts=(*texts, "thrown"), handlers=((1, many + 2, many + 3, 0),))
