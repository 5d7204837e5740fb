"""What each row does in a machine.

Straight rows, which throw nothing, and those that work something out lead on to the next one; the other ones see to
what is next themselves.
"""

from unseenheap.laying import AHEAD
from unseenheap.saying import line_of_word
from unseenheap.words import INTEGER_TAG, NIL_WORD, TAGS, THREAD_TAG
from unseenheap.workings import WORKING, is_false, lay_for, sort_of_word

MOST_FRAMES = 200


def step(core):
    """Do the next row; at most one tick is counted, and nothing is done behind it."""
    if not core.queue:
        core.free_least()
        return
    frame = core.strands[core.queue[0]].frames[-1]
    row = core.plan.rows[frame.code][frame.row]
    if row[0] in STRAIGHT:
        straight = STRAIGHT[row[0]]
        straight(core, frame, row)
        frame.row += 1
    elif row[0] in WORKING:
        working = WORKING[row[0]]
        fault = working(core, frame, row)
        if fault is None:
            frame.row += 1
        else:
            core.throw_fault(fault)
    else:
        leading = LEADING[row[0]]
        leading(core, frame, row)


def do_push(_core, frame, row):
    """A value; the plan has its word."""
    frame.pile.append(row[1])


def do_text(core, frame, row):
    """A text of the unit."""
    frame.pile.append(core.text_words[row[1]])


def do_load(_core, frame, row):
    """What a slot has."""
    frame.pile.append(frame.slots[row[1]])


def do_store(_core, frame, row):
    """Let a slot have a value."""
    frame.slots[row[1]] = frame.pile.pop()


def do_cell(core, frame, row):
    """Let a slot have a new cell, with what the slot had."""
    core.store.reserve(1 + AHEAD)
    frame.slots[row[1]] = core.store.place("cell", [frame.slots[row[1]]])


def do_peek(core, frame, row):
    """What the cell in a slot has."""
    frame.pile.append(core.store.read(frame.slots[row[1]] // TAGS, 0))


def do_poke(core, frame, row):
    """Let the cell in a slot have a value."""
    core.store.write(frame.slots[row[1]] // TAGS, 0, frame.pile.pop())


def kept_cell(core, frame, at):
    """The word of a cell that the function called keeps; its code stands ahead of its cells."""
    return core.store.read(frame.called[0] // TAGS, 1 + at)


def do_see(core, frame, row):
    """What a kept cell has."""
    frame.pile.append(core.store.read(kept_cell(core, frame, row[1]) // TAGS, 0))


def do_set(core, frame, row):
    """Let a kept cell have a value."""
    core.store.write(kept_cell(core, frame, row[1]) // TAGS, 0, frame.pile.pop())


def do_name(core, frame, row):
    """What a top name has."""
    frame.pile.append(core.top_words[row[1]])


def do_keep(core, frame, row):
    """Let a top name have a value."""
    core.top_words[row[1]] = frame.pile.pop()


def do_fun(core, frame, row):
    """A new function."""
    _, code, cells = row
    core.store.reserve(len(cells) + 1 + AHEAD)
    found = [code * TAGS + INTEGER_TAG]
    for where, at in cells:
        found.append(frame.slots[at] if where == 0 else kept_cell(core, frame, at))
    frame.pile.append(core.store.place("function", found))


def do_new(core, frame, row):
    """A new object."""
    many = len(core.plan.field_places(row[1]))
    core.store.reserve(many + 1 + AHEAD)
    inner = [row[1] * TAGS + INTEGER_TAG, *[NIL_WORD for _ in range(many)]]
    frame.pile.append(core.store.place("object", inner))


def do_list(core, frame, row):
    """A new list, of values that are on the pile until it is made."""
    core.store.reserve(row[1] + AHEAD)
    word = core.store.place("list", frame.pile[len(frame.pile) - row[1]:])
    lay_for(frame.pile, row[1], word)


def do_say(core, frame, _row):
    """Put out a line."""
    core.said.append(line_of_word(core, frame.pile.pop()))


def do_pop(_core, frame, _row):
    """Let go of a value."""
    frame.pile.pop()


def do_dup(_core, frame, _row):
    """A value once more."""
    frame.pile.append(frame.pile[-1])


def do_jump(_core, frame, row):
    """Go on at a row."""
    frame.row = row[1]


def do_skip(_core, frame, row):
    """Go on at a row if a value is FALSE."""
    frame.row = row[1] if is_false(frame.pile.pop()) else frame.row + 1


def do_tick(core, frame, _row):
    """Count a tick."""
    frame.row += 1
    core.tick()


def do_give(core, frame, _row):
    """Give a value."""
    core.give(frame.pile[-1])


def do_throw(core, frame, _row):
    """Throw a value."""
    core.throw(frame.pile[-1])


def do_join(core, frame, _row):
    """Wait for a thread, and lay or throw what it gave or threw."""
    word = frame.pile[-1]
    if word & (TAGS - 1) != THREAD_TAG:
        core.throw_fault("kind")
        return
    strand = core.strands[word // TAGS]
    if strand.ending == "":
        core.wait_for(word // TAGS)
    elif strand.ending == "gave":
        lay_for(frame.pile, 1, strand.left_words[0])
        frame.row += 1
    else:
        core.throw(strand.left_words[0])


def do_call(core, frame, row):
    """Call a function."""
    word = frame.pile[-1 - row[1]]
    if sort_of_word(core, word) != "function":
        core.throw_fault("kind")
    else:
        code = core.store.read(word // TAGS, 0) // TAGS
        begin_frame(core, frame, code, word, row[1], 1)


def do_send(core, frame, row):
    """Call the method by which an object answers."""
    word = frame.pile[-1 - row[2]]
    if sort_of_word(core, word) != "object":
        core.throw_fault("kind")
    else:
        number = core.store.read(word // TAGS, 0) // TAGS
        answer(core, frame, number, row[1], row[2])


def do_up(core, frame, row):
    """Call the method that the elder of a class has."""
    answer(core, frame, core.plan.unit.classes[row[1]][1], row[2], row[3])


def answer(core, frame, number, name, many):
    """Call the method by which a class answers; the object is its first argument."""
    code = core.plan.answer(number, name)
    if code is None:
        core.throw_fault("method")
    else:
        begin_frame(core, frame, code, NIL_WORD, many + 1, 0)


def begin_frame(core, frame, code, called, many, more):
    """Begin a call with so many values as arguments, ahead of which more are taken."""
    frames = core.strands[core.queue[0]].frames
    if core.plan.unit.codes[code].params != many:
        core.throw_fault("count")
    elif len(frames) >= MOST_FRAMES:
        core.throw_fault("deep")
    else:
        args = frame.pile[len(frame.pile) - many:]
        del frame.pile[len(frame.pile) - many - more:]
        frame.row += 1
        frames.append(core.new_frame(code, called, args))


STRAIGHT = {
    "push": do_push, "text": do_text, "load": do_load, "store": do_store, "cell": do_cell, "peek": do_peek,
    "poke": do_poke, "see": do_see, "set": do_set, "name": do_name, "keep": do_keep, "fun": do_fun, "new": do_new,
    "list": do_list, "say": do_say, "pop": do_pop, "dup": do_dup,
}
LEADING = {
    "jump": do_jump, "skip": do_skip, "call": do_call, "send": do_send, "up": do_up, "give": do_give,
    "throw": do_throw, "join": do_join, "tick": do_tick,
}
