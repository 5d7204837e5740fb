"""Machines: units that are run over heaps."""

from unseenheap.cores import Core
from unseenheap.doings import step
from unseenheap.errors import HeapFull, NotLet
from unseenheap.examine import refused
from unseenheap.imaging import machine_image
from unseenheap.machinemeaning import machine_meaning
from unseenheap.moments import check_moments, check_most
from unseenheap.plans import Plan
from unseenheap.rooms import check_room
from unseenheap.saying import ends_of
from unseenheap.stores import layout_with
from unseenheap.units import Code, Unit


class Machine:
    """A unit that is run over a heap with a room, or, for None, an endless one, with deeds at moments."""

    def __init__(self, unit, room, moments):
        check_let(unit)
        check_room(room)
        check_moments(moments)
        # What the heap had no room for, when it was full.
        self.full_at = None
        self.core = Core(Plan(unit), room, moments)
        self.core.begin()

    def core_in_order(self):
        """What this machine is while it runs, if it is not full."""
        if self.full_at is not None:
            raise HeapFull(self.full_at)
        return self.core

    def run(self, most):
        """Go on until so many ticks are counted in all, or the run is over."""
        core = self.core_in_order()
        check_most(most)
        try:
            while core.counted < most and not core.has_ended():
                step(core)
        except HeapFull as full:
            self.full_at = full.taken
            raise

    def ticks(self):
        """How many ticks were counted."""
        return self.core_in_order().counted

    def is_over(self):
        """Whether no thread is ready, and none waits."""
        return self.core_in_order().has_ended()

    def lines(self):
        """The lines put out."""
        return list(self.core_in_order().said)

    def ends(self):
        """What the threads gave or threw, None for those that are not over."""
        return ends_of(self.core_in_order())

    def made(self):
        """How many things were made."""
        return self.core_in_order().store.last

    def meaning(self):
        """What this machine means, whatever its heap is."""
        return machine_meaning(self.core_in_order())

    def layout(self):
        """What lies in the heap, and how many roots are texts, top names, and of each thread."""
        core = self.core_in_order()
        told = layout_with(core.store, tuple(list(enumerate(core.root_words()))))
        of_threads = [sum([len(row) for row in strand.rows_of_words()]) for strand in core.strands]
        return (told, (len(core.text_words), len(core.top_words), *of_threads))

    def counts(self):
        """How often gather, turns, looks, whole and sweeps were done."""
        return self.core_in_order().store.counted_deeds()

    def image(self):
        """The text of this machine's meaning."""
        return machine_image(self.core_in_order())

    def copy(self):
        """A machine that goes on apart."""
        return machine_with(self.core_in_order().twin())


def check_let(unit):
    """Refuse a unit that the examiner doesn't let by."""
    found = refused(unit)
    if found is not None:
        raise NotLet(found[0], found[1])


def machine_with(core):
    """A machine that goes on with a run."""
    rows = (("tick",), ("push", ("nil",)), ("give",))
    made = Machine(Unit((), (), (), (Code("top", 0, 0, 0, rows, ()),)), None, ())
    made.core = core
    return made
