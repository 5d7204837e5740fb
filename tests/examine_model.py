"""The examiner told a second time, apart from the package: states as dicts, ways one by one."""

TAKES = {
    "store": 1, "poke": 1, "set": 1, "keep": 1, "get": 1, "put": 2, "at": 2, "putat": 3, "len": 1, "weak": 1, "worth": 1, "number": 1,
    "neg": 1, "not": 1, "add": 2, "sub": 2, "mul": 2, "div": 2, "rem": 2, "eq": 2, "lt": 2, "le": 2, "skip": 1, "give": 1, "throw": 1,
    "say": 1, "pop": 1, "dup": 1, "spawn": 1, "join": 1,
}
LAYS_NONE = ("store", "cell", "poke", "set", "keep", "put", "putat", "jump", "skip", "give", "throw", "say", "pop", "tick")


def takes(row):
    if row[0] == "list":
        return row[1]
    if row[0] in ("call", "send", "up"):
        return row[-1] + 1
    return TAKES.get(row[0], 0)


def lays(row):
    return 0 if row[0] in LAYS_NONE else 2 if row[0] == "dup" else 1


def handler_of(code, at):
    for handler in code.handlers:
        if handler[0] <= at < handler[1]:
            return handler
    return None


def well_set(unit, code, at):
    row = code.rows[at]
    word = row[0]
    many = len(code.rows)
    if at == 0 and word != "tick":
        return False
    limits = {"load": code.slots, "store": code.slots, "cell": code.slots, "peek": code.slots, "poke": code.slots, "see": code.keeps,
              "set": code.keeps, "text": len(unit.texts), "name": len(unit.tops), "keep": len(unit.tops), "new": len(unit.classes),
              "up": len(unit.classes), "fun": len(unit.codes), "jump": many, "skip": many}
    if word in limits and row[1] >= limits[word]:
        return False
    if word == "up" and unit.classes[row[1]][1] is None:
        return False
    if word == "fun":
        if row[1] == 0 or unit.codes[row[1]].keeps != len(row[2]):
            return False
        if any(i >= (code.keeps if where else code.slots) for where, i in row[2]):
            return False
    if word in ("jump", "skip") and row[1] <= at and code.rows[row[1]][0] != "tick":
        return False
    if word not in ("jump", "give", "throw") and at == many - 1:
        return False
    handler = handler_of(code, at)
    if handler is not None:
        if handler[2] >= many:
            return False
        if handler[2] < handler[1] and code.rows[handler[2]][0] != "tick":
            return False
    return True


def can_be_done(code, at, state):
    depth, sorts = state
    row = code.rows[at]
    left = depth - takes(row)
    if left < 0 or left + lays(row) > 40000:
        return False
    wanted = []
    if row[0] in ("load", "cell"):
        wanted = [(row[1], "value")]
    elif row[0] in ("peek", "poke"):
        wanted = [(row[1], "cell")]
    elif row[0] == "fun":
        wanted = [(i, "cell") for where, i in row[2] if where == 0]
    if any(sorts[i] != sort for i, sort in wanted):
        return False
    handler = handler_of(code, at)
    return handler is None or (handler[3] <= left and handler[3] < 40000)


def leads(code, at, state):
    """The triples (door, row, state) by which a row leads."""
    depth, sorts = state
    row = code.rows[at]
    after = list(sorts)
    if row[0] == "store":
        after[row[1]] = "value"
    if row[0] == "cell":
        after[row[1]] = "cell"
    behind = (depth - takes(row) + lays(row), tuple(after))
    found = []
    if row[0] not in ("jump", "give", "throw"):
        found.append(("on", at + 1, behind))
    if row[0] in ("jump", "skip"):
        found.append(("to", row[1], behind))
    handler = handler_of(code, at)
    if handler is not None:
        found.append(("out", handler[2], (handler[3] + 1, sorts)))
    return found


def first(code):
    return (0, ("value",) * code.slots)


def table_of(unit, code):
    """(None, table), or (row, None) with the row at which a code is refused."""
    states = [None] * len(code.rows)
    states[0] = first(code)
    looked = [None] * len(code.rows)
    while True:
        pending = [at for at, state in enumerate(states) if state is not None and state != looked[at]]
        if not pending:
            return None, tuple(states)
        at = min(pending)
        state = looked[at] = states[at]
        if not well_set(unit, code, at) or not can_be_done(code, at, state):
            return at, None
        for _, to, led in leads(code, at, state):
            if states[to] is None:
                states[to] = led
            elif states[to][0] != led[0]:
                return at, None
            else:
                sorts = tuple(a if a == b else "unset" for a, b in zip(states[to][1], led[1]))
                states[to] = (led[0], sorts)


def refused(unit):
    for number, code in enumerate(unit.codes):
        at, _ = table_of(unit, code)
        if at is not None:
            return (number, at)
    return None


def table(unit):
    return tuple(table_of(unit, code)[1] for code in unit.codes)


def has_refutal(unit, code, most=4000):
    """Whether one of all ways, state by state, shows that a code is refused; None if there are too many."""
    seen = {(0, first(code))}
    waiting = list(seen)
    depths = {}
    while waiting:
        at, state = waiting.pop()
        if depths.setdefault(at, state[0]) != state[0] or not well_set(unit, code, at) or not can_be_done(code, at, state):
            return True
        for _, to, led in leads(code, at, state):
            if (to, led) not in seen:
                seen.add((to, led))
                waiting.append((to, led))
        if len(seen) > most:
            return None
    return False


def end_of(unit, code, way):
    """The row and the state to which a way comes, None for what is no way."""
    if not isinstance(way, tuple) or way[:1] != (("on", 0),):
        return None
    at, state = 0, first(code)
    for pair in way[1:]:
        if not well_set(unit, code, at) or not can_be_done(code, at, state):
            return None
        found = [(to, led) for door, to, led in leads(code, at, state) if (door, to) == pair]
        if not found:
            return None
        at, state = found[0]
    return at, state


def longest(unit, code):
    """The greatest number of rows one behind another with no tick among them, by all ways."""
    states = table_of(unit, code)[1]
    best = {}

    def count(at):
        if code.rows[at][0] == "tick":
            return 0
        if at not in best:
            best[at] = 1 + max([count(to) for _, to, _ in leads(code, at, states[at])], default=0)
        return best[at]

    return max(count(at) for at, state in enumerate(states) if state is not None)
