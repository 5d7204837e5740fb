"""Machines that go on from their images."""

from unseenheap.cores import Core, Frame, Strand
from unseenheap.errors import HeapFull, NoText
from unseenheap.examine import table
from unseenheap.imagelines import room_of_things
from unseenheap.machine import machine_with
from unseenheap.machineclaims import Claims
from unseenheap.machinelines import MachineLines
from unseenheap.moments import check_moments
from unseenheap.plans import Plan
from unseenheap.rooms import check_room


def resumed(unit, text, room, moments):
    """A machine of a unit that goes on from an image, with a room and moments of its own."""
    tables = table(unit)
    if not isinstance(text, str):
        raise NoText()
    check_room(room)
    check_moments(moments)
    image = MachineLines(unit, tables, text)
    claims = Claims(image)
    claims.check()
    taken = room_of_things(image.things_read)
    if room is not None and taken > room.old:
        raise HeapFull(taken)
    return machine_with(core_from(image, Plan(unit), room, moments))


def core_from(image, plan, room, moments):
    """A run that goes on from an image that was read."""
    core = Core(plan, room, moments)
    things = [(number, sort, worths) for number, sort, worths, _ in image.things_read]
    words = core.store.settle(things, image.last)
    core.counted = image.ticks_read
    core.pass_moments()
    core.said = list(image.said)
    core.text_words = [words[number] for number in range(1, len(plan.unit.texts) + 1)]
    core.top_words = words_of_worths(words, image.top_worths)
    core.queue = list(image.queue)
    for number, thread in enumerate(image.threads_read):
        core.strands.append(strand_from(words, thread))
        if thread.state == "waits":
            core.awaited[number] = thread.awaited_one
    return core


def words_of_worths(words, worths):
    """The list of the words that have worths; those of things are told by their numbers."""
    return [words[told] if kind == "thing" else told for kind, told in worths]


def strand_from(words, thread):
    """A thread that goes on from what was read."""
    strand = Strand([frame_from(words, frame) for frame in thread.frames])
    if thread.left_worth is not None:
        strand.ending = thread.state
        strand.left_words = words_of_worths(words, [thread.left_worth])
    return strand


def frame_from(words, told):
    """A frame that goes on from what was read."""
    called = words_of_worths(words, [told.called_worth])[0]
    frame = Frame(told.code, words_of_worths(words, told.slot_worths), called)
    frame.row = told.row
    frame.pile = words_of_worths(words, told.pile_worths)
    return frame
