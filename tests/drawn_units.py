"""Units drawn by chance, most of which are let by or nearly so."""

import random

from unseenheap.units import Code, Unit

TEXTS = ("", "ab")
TOPS = (("a", None), ("f", 1))
CLASSES = (("A", None, ("x",), (("m", 2),)), ("B", 0, (), ()))
STRAIGHT = [
    ("tick",), ("push", ("nil",)), ("push", ("int", 3)), ("push", ("bool", True)), ("text", 1), ("load", 0), ("load", 1), ("store", 0), ("store", 1),
    ("cell", 0), ("cell", 1), ("peek", 0), ("peek", 1), ("poke", 0), ("see", 0), ("set", 0), ("name", 0), ("keep", 1), ("fun", 1, ()),
    ("fun", 3, ((0, 0),)), ("fun", 3, ((0, 1),)), ("fun", 3, ((1, 0),)), ("new", 1), ("get", "x"), ("put", "x"), ("list", 1), ("list", 2), ("at",),
    ("putat",), ("len",), ("not",), ("add",), ("eq",), ("pop",), ("dup",), ("say",), ("call", 0), ("send", "m", 0), ("up", 1, "m", 0), ("spawn",), ("join",),
]
EVEN = [("tick",), ("push", ("nil",)), ("pop",), ("dup",), ("load", 0), ("store", 0), ("cell", 0), ("peek", 0), ("load", 1), ("store", 1), ("add",)]


def drawn_rows(chance, many):
    rows = [("tick",)]
    depth = 0
    for at in range(1, many):
        roll = chance.random()
        if roll < 0.12:
            rows.append(("jump", aim(chance, rows, at, many)))
        elif roll < 0.3 and depth:
            rows.append(("skip", aim(chance, rows, at, many)))
            depth -= 1
        elif roll < 0.34 and depth:
            rows.append((chance.choice(["give", "throw"]),))
        elif roll < 0.45:
            rows.append(("tick",))
        else:
            row = chance.choice(STRAIGHT if chance.random() < 0.6 else EVEN)
            if depth == 0 and row[0] in ("pop", "dup", "store", "poke", "set", "keep", "get", "put", "at", "not", "add", "len", "say", "eq", "call") \
                    and chance.random() < 0.95:
                row = ("push", ("nil",))
            if row[0] == "push":
                depth += 1
            if row[0] in ("pop", "store", "poke", "keep", "say"):
                depth = max(0, depth - 1)
            rows.append(row)
    rows += [("push", ("nil",)), ("give",)]
    return tuple(rows)


def aim(chance, rows, at, many):
    ticks = [row for row, words in enumerate(rows) if words[0] == "tick"]
    if chance.random() < 0.4:
        return chance.choice(ticks)
    if chance.random() < 0.95:
        return chance.randrange(at + 1, many + 2)
    return chance.randrange(0, many + 4)


def drawn_handlers(chance, rows):
    found = []
    for _ in range(chance.choice([0, 0, 1, 1, 2])):
        begin = chance.randrange(0, len(rows) - 1)
        end = chance.randrange(begin + 1, len(rows) + 1)
        at = chance.randrange(min(end, len(rows) - 1), len(rows)) if chance.random() < 0.8 else chance.randrange(0, len(rows) + 1)
        found.append((begin, end, at, chance.choice([0, 0, 0, 0, 1])))
    return tuple(found)


def drawn_code(chance, name, params, slots, keeps):
    rows = drawn_rows(chance, chance.randrange(1, 12))
    return Code(name, params, slots, keeps, rows, drawn_handlers(chance, rows))


def drawn_unit(seed):
    """A unit of four codes; 1 and 2 are the simplest, so that what is drawn is seen in 0 and 3."""
    chance = random.Random(seed)
    simple = (("tick",), ("push", ("nil",)), ("give",))
    return Unit(TEXTS, TOPS, CLASSES, (
        drawn_code(chance, "top", 0, chance.choice([2, 2, 2, 0]), 0), Code("f", 0, 0, 0, simple, ()), Code("A.m", 1, 1, 0, simple, ()),
        drawn_code(chance, "fun", chance.randrange(3), 2, 1) if chance.random() < 0.5 else Code("fun", 0, 0, 1, simple, ()),
    ))


def level_unit(seed):
    """A unit of one code in which only the sorts of slots can go wrong: its blocks begin and end with an empty pile."""
    chance = random.Random(seed)
    many = chance.randrange(3, 9)
    blocks = [[("tick",)]]
    for _ in range(many):
        slot = chance.randrange(2)
        blocks.append(list(chance.choice([
            [("load", slot), ("pop",)], [("push", ("nil",)), ("store", slot)], [("push", ("nil",)), ("store", slot)],
            [("push", ("nil",)), ("store", slot), ("cell", slot)], [("push", ("nil",)), ("store", slot), ("cell", slot)],
            [("cell", slot)], [("peek", slot), ("pop",)], [("fun", 1, ((0, slot),)), ("pop",)],
            [("push", ("nil",)), ("poke", slot)], [("push", ("nil",)), ("skip", None)], [("push", ("nil",)), ("skip", None)],
            [("push", ("nil",)), ("skip", None)], [("jump", None)], [("tick",)], [("tick",)], [("land",), ("pop",)],
        ])))
    begins, total = [], 0
    for block in blocks:
        begins.append(total)
        total += len(block)
    rows, landings = [], []
    for number, block in enumerate(blocks):
        for row in block:
            if row == ("land",):
                landings.append((number, begins[number] + 1))
                row = ("jump", begins[number] + 2)
            if len(row) == 2 and row[1] is None:
                aims = [begin for begin in begins if begin > len(rows) or begin < total and blocks[begins.index(begin)][0] == ("tick",)]
                row = (row[0], chance.choice([*aims, total]))
            rows.append(row)
    handlers = []
    for number, at in landings:
        begin = chance.randrange(number)
        end = chance.randrange(begin + 1, number + 1)
        handlers.append((begins[begin], begins[end], at, 0))
    rows += [("push", ("nil",)), ("give",)]
    keeping = Code("fun", 0, 0, 1, (("tick",), ("push", ("nil",)), ("give",)), ())
    return Unit((), (), (), (Code("top", 0, 2, 0, tuple(rows), tuple(handlers)), keeping))


def loose_rows(chance, many):
    """Blocks that begin and end with an empty pile, jumps between them, and where handlers may go on."""
    value = lambda: ("push", chance.choice([("int", 0), ("int", 5), ("int", -3), ("int", 2 ** 59 - 1), ("int", -2 ** 59), ("nil",), ("bool", False), ("bool", True),
                                            ("fault", "kind")]))
    blocks = [[("tick",), ("cell", 1)]]
    for _ in range(many):
        word = chance.choice(["add", "sub", "mul", "div", "rem", "lt", "le", "eq"])
        blocks.append(chance.choice([
            lambda: [value(), value(), (word,), chance.choice([("pop",), ("say",)])],
            lambda: [value(), (chance.choice(["neg", "not"]),), ("say",)],
            lambda: [value(), value(), value(), (word,), ("list", 2), ("pop",)],
            lambda: [value(), ("store", 0), ("load", 0), ("say",)],
            lambda: [value(), ("poke", 1), ("peek", 1), ("pop",)],
            lambda: [value(), ("keep", 0), ("name", 0), ("say",)],
            lambda: [value(), ("store", 0), ("load", 2), ("pop",)],
            lambda: [chance.choice([value(), ("text", 0), ("load", 0), ("peek", 1), ("name", 0)]), ("dup",), ("pop",), ("pop",)],
            lambda: [("jump", None)],
            lambda: [("jump", None)],
            lambda: [("load", 0), ("skip", None)],
            lambda: [value(), ("skip", None)],
            lambda: [value(), ("jump", "give")],
            lambda: [value(), ("skip", None), value(), ("give",)],
            lambda: [value(), ("give",)],
            lambda: [("tick",), ("load", 0), ("skip", None)],
            lambda: [("land",), ("pop",)],
            lambda: [("land",), ("pop",)],
            lambda: [("throw_", ), ],
        ])())
    rows, begins, gives, lands = [], [], [], []
    for number, block in enumerate(blocks):
        if block == [("throw_",)]:
            block = blocks[number] = [value(), ("throw",)]
        begins.append(len(rows))
        for row in block:
            if row == ("give",):
                gives.append(len(rows))
            if row == ("land",):
                lands.append(len(rows) + 1)
                row = ("jump", len(rows) + 2)
            rows.append(row)
    begins.append(len(rows))
    gives.append(len(rows) + 1)
    rows += [("push", ("nil",)), ("give",)]
    ticks = [at for at in begins if rows[at] == ("tick",)]
    for at, row in enumerate(rows):
        if row == ("jump", "give"):
            rows[at] = ("jump", chance.choice([give for give in gives if give > at]))
        elif len(row) == 2 and row[1] is None:
            aims = [begin for begin in begins if begin > at]
            near = [begin for begin in aims if rows[begin][0] in ("jump", "tick")] or aims
            back = [tick for tick in ticks if tick <= at]
            rows[at] = (row[0], chance.choice(chance.choice([aims, near, back or aims])))
    return rows, lands


def loose_unit(seed):
    """A unit of one code with much that the optimiser can do, which is let by."""
    chance = random.Random(seed)
    rows, lands = loose_rows(chance, chance.randrange(2, 25))
    handlers = []
    for land in lands:
        for _ in range(chance.choice([0, 1, 1, 2])):
            begin = chance.randrange(land)
            handlers.append((begin, chance.randrange(begin + 1, land + 1), land, 0))
    if chance.random() < 0.2:
        handlers.append((len(rows) + 2, len(rows) + 5, chance.randrange(len(rows) + 3), 0))
    if chance.random() < 0.2 and lands:
        handlers.append((len(rows) - 1, len(rows) + chance.randrange(1, 3), lands[-1], 9))
    chance.shuffle(handlers)
    return Unit(("ab",), (("a", None),), (), (Code("top", 0, 3, 0, tuple(rows), tuple(handlers)),))


# How many values rows take and lay, as far as tangled_unit draws them.
TAKEN = {"pop": 1, "store": 1, "keep": 1, "poke": 1, "say": 1, "not": 1, "neg": 1, "add": 2, "eq": 2, "lt": 2, "dup": 1, "skip": 1, "give": 1, "throw": 1}
LAID = {"push": 1, "load": 1, "name": 1, "peek": 1, "text": 1, "not": 1, "neg": 1, "add": 1, "eq": 1, "lt": 1, "dup": 2}


def tangled_unit(seed):
    """A unit of one code that is let by: rows at any depth, jumps and skips to any row of the same depth, handlers."""
    chance = random.Random(seed)
    words = ["push"] * 6 + ["load", "name", "peek", "text", "pop", "pop", "store", "store", "keep", "poke", "say", "not", "neg", "add", "eq", "lt", "dup", "skip",
                            "skip", "jump", "jump", "jump", "give", "throw", "tick"]
    values = [("int", 0), ("int", 2), ("int", 2 ** 59 - 1), ("nil",), ("bool", False), ("bool", True)]
    rows, depths, depth = [("tick",), ("cell", 1)], [0, 0], 0
    for _ in range(chance.randrange(3, 30)):
        word = chance.choice(words)
        if rows[-1][0] in ("store", "keep", "poke") and chance.random() < 0.4:
            word = {"store": "load", "keep": "name", "poke": "peek"}[rows[-1][0]]
        if TAKEN.get(word, 0) > depth or depth > 4 and word in LAID and word not in TAKEN:
            continue
        depths.append(depth)
        depth += LAID.get(word, 0) - TAKEN.get(word, 0)
        rows.append(("push", chance.choice(values)) if word == "push" else (word, 1) if word in ("peek", "poke") else
                    (word, 0) if word in ("load", "store", "name", "keep", "text", "jump", "skip") else (word,))
    depths.append(depth)
    rows.append(("push", ("nil",)))
    depths.append(depth + 1)
    rows.append(("give",))
    for at, row in enumerate(rows):
        if row[0] in ("jump", "skip"):
            wanted = depths[at] - (row[0] == "skip")
            aims = [to for to in range(len(rows)) if depths[to] == wanted and (to > at or rows[to] == ("tick",))]
            near = [to for to in aims if rows[to][0] in ("jump", "give") or at < to < at + 4]
            if not aims:
                rows[at] = ("push", ("nil",)) if row[0] == "jump" else ("pop",)
                if row[0] == "jump":
                    return tangled_unit(seed + 10 ** 6)
            else:
                rows[at] = (row[0], chance.choice(near if near and chance.random() < 0.6 else aims))
    handlers = []
    for _ in range(chance.choice([0, 0, 1, 2, 3])):
        begin = chance.randrange(len(rows) - 1)
        end = begin + chance.choice([1, 1, 2, 3, 5, 9])
        least = min(depths[at] - TAKEN.get(rows[at][0], 0) for at in range(begin, min(end, len(rows))))
        lands = [at for at in range(end, len(rows)) if 1 <= depths[at] <= least + 1]
        if lands:
            at = chance.choice(lands)
            handlers.append((begin, end, at, depths[at] - 1))
    return Unit(("ab",), (("a", None),), (), (Code("top", 0, 2, 0, tuple(rows), tuple(handlers)),))
