"""Ways through a code, and refutals: ways that show why it is refused."""

from unseenheap.kinds import is_integer
from unseenheap.tables import Table

BEGIN = ("on", 0)


def end_of_way(judge, thing):
    """The row and the state to which a way comes, or None for what is no way."""
    if not isinstance(thing, tuple) or not thing or not all([is_step(pair) for pair in thing]) or thing[0] != BEGIN:
        return None
    at = 0
    state = judge.first_state()
    for door, to in thing[1:]:
        if not judge.is_well_set(at) or not judge.can_be_done(at, state) or (door, to) not in judge.doors(at):
            return None
        state = judge.state_led(at, door, state)
        at = to
    return (at, state)


def is_step(thing):
    """Whether a thing is a pair of a string and a number, as those of a way are."""
    return isinstance(thing, tuple) and len(thing) == 2 and isinstance(thing[0], str) and is_integer(thing[1])


def refutes(judge, thing):
    """Whether a thing is a refutal of a code."""
    if not isinstance(thing, tuple) or len(thing) != 3 or not isinstance(thing[0], str):
        return False
    word, way, other = thing
    end = end_of_way(judge, way)
    if end is None:
        return False
    if word == "meet":
        other_end = end_of_way(judge, other)
        return other_end is not None and end[0] == other_end[0] and end[1][0] != other_end[1][0]
    if other is not None:
        return False
    if word == "set":
        return not judge.is_well_set(end[0])
    return word == "done" and judge.is_well_set(end[0]) and not judge.can_be_done(end[0], end[1])


def refutal_of(judge):
    """A refutal of a code, or None if it is not refused."""
    found = Table(judge)
    at = found.refused_at
    if at is None:
        return None
    if found.refused_for == "meet":
        return ("meet", (*found.way_to(at), found.unlike_door), found.way_to(found.unlike_door[1]))
    if found.refused_for == "set" or not judge.has_depth(at, found.states[at][0]):
        return (found.refused_for, found.way_to(at), None)
    lacking = [(slot, sort) for slot, sort in judge.wanted_sorts(at) if found.states[at][1][slot] != sort]
    slot, sort = lacking[0]
    return ("done", cut(judge, way_with(judge, at, slot, sort)), None)


def way_with(judge, at, slot, barred):
    """Steps to a row at which a slot has not this sort; whether the rows ahead can be done is not asked."""
    # A place is a row with the sort that the slot has there. Other slots are left out, so places are few. One such as
    # is looked for is there, as a table has no sort, or "unset", but for ways that bring it.
    place = (0, "value")
    whence = {place: None}
    waiting = []
    while place[0] != at or place[1] == barred:
        doors = judge.doors(place[0]) if judge.is_well_set(place[0]) else []
        for door, to in doors:
            led = (to, sort_led(judge, place, door, slot))
            if led not in whence:
                whence[led] = (place, door)
                waiting.append(led)
        place = waiting.pop()
    return steps_to(whence, place)


def sort_led(judge, place, door, slot):
    """The sort that a slot has behind a door of a row."""
    at, sort = place
    row = judge.code.rows[at]
    if door == "out" or row[0] not in ("store", "cell") or row[1] != slot:
        return sort
    return "value" if row[0] == "store" else "cell"


def steps_to(whence, place):
    """The steps that come to a place."""
    found = []
    while whence[place] is not None:
        ahead, door = whence[place]
        found.append((door, place[0]))
        place = ahead
    return (BEGIN, *found[::-1])


def cut(judge, steps):
    """Steps up to the first row that can't be done in the state with which they come; all rows are well set."""
    state = judge.first_state()
    many = 1
    while judge.can_be_done(steps[many - 1][1], state):
        state = judge.state_led(steps[many - 1][1], steps[many][0], state)
        many += 1
    return steps[:many]
