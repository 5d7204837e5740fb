"""What a machine means: the same whatever its heap is, and whatever its collector did."""

from unseenheap.tellings import things_told, value_of_word, values_of_words


def machine_meaning(core):
    """The tuple (ticks, lines, tops, threads, queue, things)."""
    tops = values_of_words(core.store, core.top_words)
    threads = tuple([thread_told(core, number) for number in range(len(core.strands))])
    things = things_told(core.store, core.root_words())
    return (core.counted, tuple(core.said), tops, threads, tuple(core.queue), things)


def thread_told(core, number):
    """The pair of a thread's state and frames."""
    strand = core.strands[number]
    if strand.ending != "":
        return ((strand.ending, value_of_word(core.store, strand.left_words[0])), ())
    frames = tuple([frame_told(core.store, frame) for frame in strand.frames])
    return (("waits", core.awaited[number]) if number in core.awaited else ("ready",), frames)


def frame_told(store, frame):
    """The tuple (code, row, slots, function, pile) of a frame."""
    slots = values_of_words(store, frame.slots)
    pile = values_of_words(store, frame.pile)
    return (frame.code, frame.row, slots, value_of_word(store, frame.called[0]), pile)
