"""The optimiser told a second time, apart from the package: each rule is looked for and used in plain codes, the table
of which is asked of the examiner anew behind each rule, and rows are numbered anew each time."""

from unseenheap.examine import table
from unseenheap.units import Code, Unit

RULES = ["fold", "drop", "keep", "test", "next", "far", "end", "dead"]
LEAST, MOST = -2 ** 59, 2 ** 59 - 1
PAIRS = {"store": "load", "poke": "peek", "set": "see", "keep": "name"}


def handlers_around(code, at):
    return [number for number, (begin, end, _, _) in enumerate(code.handlers) if begin <= at < end]


def told_rows(code):
    found = {handler[2] for handler in code.handlers}
    return found | {row[1] for row in code.rows if row[0] in ("jump", "skip")}


def is_block(code, states, place, many):
    if place + many > len(code.rows) or states[place] is None:
        return False
    told = told_rows(code)
    inner = range(place + 1, place + many)
    return not any(at in told for at in inner) and \
        all(handlers_around(code, at) == handlers_around(code, place) for at in inner)


def value_of(word, values):
    """The value that a row lays, or None if it throws or is another one."""
    if word == "eq" and len(values) == 2:
        return ("bool", values[0] == values[1])
    if word == "not" and len(values) == 1:
        return ("bool", values[0] in (("nil",), ("bool", False)))
    if any(value[0] != "int" for value in values):
        return None
    numbers = [value[1] for value in values]
    if word == "neg" and len(values) == 1:
        number = -numbers[0]
    elif len(values) == 2 and word in ("lt", "le"):
        return ("bool", numbers[0] < numbers[1] if word == "lt" else numbers[0] <= numbers[1])
    elif len(values) == 2 and word in ("add", "sub", "mul"):
        a, b = numbers
        number = {"add": a + b, "sub": a - b, "mul": a * b}[word]
    elif len(values) == 2 and word in ("div", "rem") and numbers[1] != 0:
        number = divmod(*numbers)[word == "rem"]
    else:
        return None
    return ("int", number) if LEAST <= number <= MOST else None


def used(code, states, place, rule):
    """How many rows a rule exchanges at a place, and for which, or None."""
    rows = code.rows
    row = rows[place]
    if rule == "dead":
        return (1, []) if states[place] is None else None
    if not is_block(code, states, place, 1):
        return None
    if rule == "fold":
        for many in (2, 3):
            if is_block(code, states, place, many) and all(r[0] == "push" for r in rows[place:place + many - 1]):
                value = value_of(rows[place + many - 1][0], [r[1] for r in rows[place:place + many - 1]])
                if value is not None:
                    return (many, [("push", value)])
        return None
    if rule in ("drop", "keep", "test"):
        if not is_block(code, states, place, 2):
            return None
        other = rows[place + 1]
        if rule == "drop":
            return (2, []) if row[0] in ("push", "text", "load", "peek", "see", "name", "dup") and other == ("pop",) else None
        if rule == "keep":
            is_pair = row[0] in PAIRS and other == (PAIRS[row[0]], row[1])
            return (2, [("dup",), row]) if is_pair and states[place][0] < 40000 else None
        if row[0] != "push" or other[0] != "skip":
            return None
        return (2, [("jump", other[1])] if row[1] in (("nil",), ("bool", False)) else [])
    if row[0] not in ("jump", "skip"):
        return None
    target = rows[row[1]]
    if rule == "next":
        return (1, [] if row[0] == "jump" else [("pop",)]) if row[1] == place + 1 else None
    if rule == "far":
        return (1, [(row[0], target[1])]) if target[0] == "jump" else None
    is_end = row[0] == "jump" and target == ("give",) and handlers_around(code, place) == handlers_around(code, row[1])
    return (1, [("give",)]) if is_end else None


def rules_in(code, states):
    return [(place, rule) for place in range(len(code.rows)) for rule in RULES if used(code, states, place, rule) is not None]


def exchanged(code, elder, states, place, rule):
    """The code behind a rule, and the elder numbers of its rows."""
    many, new = used(code, states, place, rule)

    def anew(at):
        if at < place:
            return at
        return place if at < place + many else at - many + len(new)

    rows = []
    for at, row in enumerate(code.rows):
        if at == place:
            rows.extend(new)
        if not place <= at < place + many:
            rows.append(row)
    rows = tuple((row[0], anew(row[1])) if row[0] in ("jump", "skip") else row for row in rows)
    handlers = []
    for begin, end, at, depth in code.handlers:
        was_around = begin < len(code.rows)
        begin, end, at = anew(begin), anew(end), anew(at)
        if begin < min(end, len(rows)) or not was_around:
            handlers.append((begin, end, at, depth))
    elder = (*elder[:place], *elder[place:place + len(new)], *elder[place + many:])
    return Code(code.name, code.params, code.slots, code.keeps, rows, tuple(handlers)), elder


def with_code(unit, number, code):
    return Unit(unit.texts, unit.tops, unit.classes, tuple(code if at == number else old for at, old in enumerate(unit.codes)))


def all_used(unit):
    """The unit in which no rule is left, the elder numbers of its rows, and all units between with the rules used."""
    elders = [tuple(range(len(code.rows))) for code in unit.codes]
    between = []
    for number in range(len(unit.codes)):
        while True:
            states = table(unit)[number]
            rules = rules_in(unit.codes[number], states)
            if not rules:
                break
            between.append((unit, number, rules))
            code, elders[number] = exchanged(unit.codes[number], elders[number], states, *rules[0])
            unit = with_code(unit, number, code)
    return unit, tuple(elders), between
