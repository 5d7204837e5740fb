"""What the examiner asks of one row of a code, in one state."""

from unseenheap.rowwords import laid_by, taken_by

MOST_DEPTH = 40000
SLOT_SORTS = {"load": "value", "cell": "value", "peek": "cell", "poke": "cell"}
NAMING_SLOTS = ("load", "store", "cell", "peek", "poke")
NAMING_KEPT = ("see", "set")
NAMING_TOPS = ("name", "keep")
LEADING_BEHIND = ("jump", "give", "throw")
LEADING_TO = ("jump", "skip")


class Judge:
    """A code of a unit, with the first handler around each of its rows, or None."""

    def __init__(self, unit, number):
        self.unit = unit
        self.code = unit.codes[number]
        self.around = [None for _ in self.code.rows]
        for handler in self.code.handlers[::-1]:
            for at in range(handler[0], min(handler[1], len(self.around))):
                self.around[at] = handler

    def first_state(self):
        """The state with which a call begins."""
        return (0, tuple(["value" for _ in range(self.code.slots)]))

    def is_well_set(self, at):
        """Whether a row tells of nothing that is not there, and leads where it may."""
        row = self.code.rows[at]
        if at == 0 and row[0] != "tick" or not self.has_all_named(row):
            return False
        if row[0] in LEADING_TO and not self.may_be_led_to(row[1], at + 1):
            return False
        if row[0] not in LEADING_BEHIND and at + 1 >= len(self.code.rows):
            return False
        handler = self.around[at]
        return handler is None or self.may_be_led_to(handler[2], handler[1])

    def may_be_led_to(self, at, least):
        """Whether a row is there, and is a tick if it is sooner than another one."""
        return at < len(self.code.rows) and (at >= least or self.code.rows[at][0] == "tick")

    def has_all_named(self, row):
        """Whether the slots, texts, top names, kept cells, classes and codes that a row names are there."""
        word = row[0]
        if word in NAMING_SLOTS:
            return row[1] < self.code.slots
        if word in NAMING_KEPT:
            return row[1] < self.code.keeps
        if word in NAMING_TOPS:
            return row[1] < len(self.unit.tops)
        if word == "text":
            return row[1] < len(self.unit.texts)
        if word == "new":
            return row[1] < len(self.unit.classes)
        if word == "up":
            return row[1] < len(self.unit.classes) and self.unit.classes[row[1]][1] is not None
        return word != "fun" or self.has_fun(row[1], row[2])

    def has_fun(self, number, cells):
        """Whether there is a code that keeps so many cells, and these are there."""
        if not 0 < number < len(self.unit.codes) or self.unit.codes[number].keeps != len(cells):
            return False
        return all([at < (self.code.slots if where == 0 else self.code.keeps) for where, at in cells])

    def has_depth(self, at, depth):
        """Whether a row can be done with so many values on the pile, as far as these go."""
        row = self.code.rows[at]
        left = depth - taken_by(row)
        if left < 0 or left + laid_by(row) > MOST_DEPTH:
            return False
        handler = self.around[at]
        return handler is None or handler[3] <= left and handler[3] < MOST_DEPTH

    def wanted_sorts(self, at):
        """The pairs (slot, sort) without which a row can't be done."""
        row = self.code.rows[at]
        if row[0] in SLOT_SORTS:
            return [(row[1], SLOT_SORTS[row[0]])]
        if row[0] == "fun":
            return [(slot, "cell") for where, slot in row[2] if where == 0]
        return []

    def can_be_done(self, at, state):
        """Whether a row, which is well set, can be done in a state."""
        depth, sorts = state
        return self.has_depth(at, depth) and all([sorts[slot] == sort for slot, sort in self.wanted_sorts(at)])

    def state_behind(self, at, state):
        """The state behind a row."""
        row = self.code.rows[at]
        depth, sorts = state
        if row[0] == "store" or row[0] == "cell":
            sorts = (*sorts[:row[1]], "value" if row[0] == "store" else "cell", *sorts[row[1] + 1:])
        return (depth - taken_by(row) + laid_by(row), sorts)

    def doors(self, at):
        """The pairs (door, row) by which a row, which is well set, leads."""
        row = self.code.rows[at]
        found = []
        if row[0] not in LEADING_BEHIND:
            found.append(("on", at + 1))
        if row[0] in LEADING_TO:
            found.append(("to", row[1]))
        if self.around[at] is not None:
            found.append(("out", self.around[at][2]))
        return found

    def state_led(self, at, door, state):
        """The state with which a row leads by a door."""
        if door == "out":
            return (self.around[at][3] + 1, state[1])
        return self.state_behind(at, state)


def fits(state, other):
    """Whether a state fits another one of as many slots."""
    if state[0] != other[0]:
        return False
    return all([one == sort or sort == "unset" for one, sort in zip(state[1], other[1])])


def joined(state, other):
    """The least state which two of one depth fit."""
    if state == other:
        return state
    return (state[0], tuple([one if one == sort else "unset" for one, sort in zip(state[1], other[1])]))
