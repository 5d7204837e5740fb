"""The examiner: which units it lets by, and papers that show why."""

from unseenheap.errors import NoCode, NotLet
from unseenheap.judging import Judge, fits
from unseenheap.kinds import is_integer
from unseenheap.refuting import refutal_of, refutes
from unseenheap.rowwords import is_number_to
from unseenheap.tables import Table
from unseenheap.units import Unit

SORTS = ("value", "cell", "unset")


def refused(unit):
    """The pair (code, row) of the first code that is refused and its row, or None."""
    for number in range(len(unit.codes)):
        at = Table(Judge(unit, number)).refused_at
        if at is not None:
            return (number, at)
    return None


def is_let(unit):
    """Whether a thing is a unit of which no code is refused."""
    return isinstance(unit, Unit) and refused(unit) is None


def table(unit):
    """The tuple of the tables of all codes: for each row its state, or None."""
    found = []
    for number in range(len(unit.codes)):
        made = Table(Judge(unit, number))
        if made.refused_at is not None:
            raise NotLet(number, made.refused_at)
        found.append(tuple(made.states))
    return tuple(found)


def check_code(unit, number):
    """Refuse what is no number of a code of a unit."""
    if not is_number_to(number, len(unit.codes) - 1):
        raise NoCode()


def is_paper(unit, number, thing):
    """Whether a thing is a right paper of a code."""
    check_code(unit, number)
    judge = Judge(unit, number)
    if not isinstance(thing, tuple) or len(thing) != len(judge.code.rows):
        return False
    if not all([state is None or is_state(state, judge.code.slots) for state in thing]):
        return False
    if thing[0] is None or not fits(judge.first_state(), thing[0]):
        return False
    return all([state is None or is_right_at(judge, at, thing) for at, state in enumerate(thing)])


def is_state(thing, slots):
    """Whether a thing is a state of a code with so many slots."""
    if not isinstance(thing, tuple) or len(thing) != 2:
        return False
    depth, sorts = thing
    if not is_integer(depth) or depth < 0 or not isinstance(sorts, tuple) or len(sorts) != slots:
        return False
    return all([isinstance(sort, str) and sort in SORTS for sort in sorts])


def is_right_at(judge, at, paper):
    """Whether a row can be done in the state that a paper has for it, and leads to rows with states that fit."""
    if not judge.is_well_set(at) or not judge.can_be_done(at, paper[at]):
        return False
    for door, to in judge.doors(at):
        if paper[to] is None or not fits(judge.state_led(at, door, paper[at]), paper[to]):
            return False
    return True


def refutal(unit, number):
    """A refutal of a code, or None if it is not refused."""
    check_code(unit, number)
    return refutal_of(Judge(unit, number))


def is_refutal(unit, number, thing):
    """Whether a thing is a refutal of a code."""
    check_code(unit, number)
    return refutes(Judge(unit, number), thing)


def stretch(unit, number):
    """The greatest number of rows that ways of a code come to one behind another with no tick among them."""
    tables = table(unit)
    check_code(unit, number)
    judge = Judge(unit, number)
    longest = [0 for _ in judge.code.rows]
    # Rows that are no ticks lead back to ticks alone, so the rows behind are known before.
    for at in reversed(range(len(longest))):
        if tables[number][at] is not None and judge.code.rows[at][0] != "tick":
            longest[at] = 1 + max([longest[to] for _, to in judge.doors(at)], default=0)
    return max(longest)
