"""What a program tells when it is run, from its text."""

from unseenheap.compiling import compiled
from unseenheap.machine import Machine
from unseenheap.moments import check_moments, check_most
from unseenheap.reading import read
from unseenheap.rooms import check_room


def told(text, room, moments, most):
    """The lines, ends, ticks of a program behind so many ticks, and whether it is over."""
    unit = compiled(read(text))
    check_room(room)
    check_moments(moments)
    check_most(most)
    machine = Machine(unit, room, moments)
    machine.run(most)
    return (machine.lines(), machine.ends(), machine.ticks(), machine.is_over())
