"""The rules of the optimiser: where each can be used, and what comes of it."""

from unseenheap.judging import LEADING_TO, MOST_DEPTH
from unseenheap.operators import calculated, compared, denied, negative
from unseenheap.values import flag, is_true

RULES = ("fold", "drop", "keep", "test", "next", "far", "end", "dead")
# The words of operators by those of the rows that do the same.
CALCULATED = {"add": "+", "sub": "-", "mul": "*", "div": "/", "rem": "mod"}
COMPARED = {"lt": "<", "le": "<="}
DROPPED = ("push", "text", "load", "peek", "see", "name", "dup")
KEPT = {"store": "load", "poke": "peek", "set": "see", "keep": "name"}


def used_at(refining, at, rule):
    """The block at a row, and the list of the rows for which a rule exchanges it, or None."""
    if (refining.depths[at] is None) != (rule == "dead"):
        return None
    if rule == "dead":
        return ([at], [])
    finder = FINDERS[rule]
    return finder(refining, at)


def rules_of_row(refining, at):
    """The rules that can be used at a row, in their order."""
    return [rule for rule in RULES if used_at(refining, at, rule) is not None]


def use_rule(refining, at, rule):
    """Use a rule at a row, where it can be."""
    block, rows = used_at(refining, at, rule)
    refining.exchange(block, rows)
    # Rows that have no state lead nowhere, and what comes in the place of others leads out as they did.
    is_way_out_lost = not rows and rule != "dead" and refining.first_around[at] is not None
    if is_way_out_lost or rule in ("test", "far", "end"):
        refining.find_dead()


def fold_values(refining, at):
    """Values that are pushed and worked out at once."""
    if refining.rows[at][0] != "push":
        return None
    for many in (2, 3):
        block = refining.block_at(at, many)
        value = folded([refining.rows[inner] for inner in block])
        if value is not None:
            return (block, [("push", value)])
    return None


def folded(rows):
    """The value that pushes and the row behind them lay, or None if they are none that can be folded."""
    if len(rows) < 2 or any([row[0] != "push" for row in rows[:-1]]):
        return None
    value = laid_by_word(rows[-1][0], [row[1] for row in rows[:-1]])
    return None if value is None or value[0] == "thrown" else value


def laid_by_word(word, values):
    """What a row lays that takes just these values, or that it throws a fault; None if it is no such row."""
    if len(values) == 1:
        if word == "neg":
            return negative(None, word, values)
        return denied(None, word, values) if word == "not" else None
    if word == "eq":
        return flag(values[0] == values[1])
    if values[0][0] != "int" or values[1][0] != "int":
        return None
    if word in CALCULATED:
        return calculated(None, CALCULATED[word], values)
    return compared(None, COMPARED[word], values) if word in COMPARED else None


def drop_value(refining, at):
    """A value that is laid, and let go of at once."""
    if refining.rows[at][0] not in DROPPED:
        return None
    block = refining.block_at(at, 2)
    return (block, []) if block and refining.rows[block[1]][0] == "pop" else None


def keep_value(refining, at):
    """A value that is laid again where it was put."""
    row = refining.rows[at]
    if row[0] not in KEPT or refining.depths[at] >= MOST_DEPTH:
        return None
    block = refining.block_at(at, 2)
    if not block or refining.rows[block[1]] != (KEPT[row[0]], row[1]):
        return None
    return (block, [("dup",), row])


def lead_by_value(refining, at):
    """A value that is pushed and looked at."""
    row = refining.rows[at]
    if row[0] != "push":
        return None
    block = refining.block_at(at, 2)
    if not block or refining.rows[block[1]][0] != "skip":
        return None
    return (block, [] if is_true(row[1]) else [("jump", refining.rows[block[1]][1])])


def lead_next(refining, at):
    """What leads to the next row."""
    row = refining.rows[at]
    if row[0] not in LEADING_TO or refining.there(row[1]) != refining.behind[at]:
        return None
    return ([at], [] if row[0] == "jump" else [("pop",)])


def lead_far(refining, at):
    """What leads to a jump."""
    row = refining.rows[at]
    if row[0] not in LEADING_TO:
        return None
    other = refining.rows[refining.there(row[1])]
    return ([at], [(row[0], other[1])]) if other[0] == "jump" else None


def end_at_once(refining, at):
    """What leads to where a call ends."""
    row = refining.rows[at]
    if row[0] != "jump":
        return None
    told = refining.there(row[1])
    if refining.rows[told] != ("give",) or refining.groups[told] != refining.groups[at]:
        return None
    return ([at], [("give",)])


FINDERS = {
    "fold": fold_values, "drop": drop_value, "keep": keep_value, "test": lead_by_value,
    "next": lead_next, "far": lead_far, "end": end_at_once,
}
