"""Heaps that are restored from their images."""

from unseenheap.errors import BadImage, HeapFull, NoText
from unseenheap.heaps import Heap
from unseenheap.imagelines import ImageLines, living_among, numbers_in, room_of_things
from unseenheap.rooms import check_room


def restored(text, room):
    """A heap with a room, or an endless one, that means what an image tells."""
    if not isinstance(text, str):
        raise NoText()
    check_room(room)
    lines = ImageLines(text)
    last = lines.one_number("last")
    held = read_handles(lines)
    things = lines.things_to_end(last)
    check_living(held, things)
    taken = room_of_things(things)
    if room is not None and taken > room.old:
        raise HeapFull(taken)
    return heap_with(room, last, held, things)


def read_handles(lines):
    """The list of (handle, worth, line) of the lines of handles."""
    found = []
    least = 0
    while lines.first_word(lines.at) == "hold":
        told = lines.told_behind("hold")
        lines.refuse_unless(len(told) == 2)
        handle = lines.number(told[0])
        lines.refuse_unless(handle >= least)
        worth = lines.worth(told[1])
        found.append((handle, worth, lines.leave()))
        least = handle + 1
    return found


def check_living(held, things):
    """Refuse the first line that names a thing which is not there, or is of one that doesn't live."""
    known = {number: worths for number, _, worths, _ in things}
    living = living_among(known, numbers_in([worth for _, worth, _ in held]))
    for _, worth, line in held:
        if worth[0] == "thing" and worth[1] not in known:
            raise BadImage(line)
    for number, _, worths, line in things:
        if number not in living or not all([inner in known for inner in numbers_in(worths)]):
            raise BadImage(line)


def heap_with(room, last, held, things):
    """A heap with handles and things, and no others."""
    heap = Heap(room)
    words = heap.store.settle([(number, sort, worths) for number, sort, worths, _ in things], last)
    for handle, (kind, worth), _ in held:
        heap.handles[handle] = [words[worth] if kind == "thing" else worth]
        heap.next_handle = handle + 1
    return heap
