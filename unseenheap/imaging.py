"""Images: texts of what heaps and machines mean."""

from unseenheap.following import come_to, worth_of


def line_of_words(found):
    """A line of words with one blank between."""
    return " ".join(found) + "\n"


def written_word(store, word):
    """A word of the heap as it is written."""
    kind, worth = worth_of(store, word)
    return ("t" if kind == "thing" else "w") + str(worth)


def written_words(store, found):
    """Words of the heap as they are written."""
    return [written_word(store, word) for word in found]


def thing_lines(store, roots):
    """The lines of the number of the last thing, and of all things that can be come to from words."""
    found = come_to(store, roots, True)
    lines = []
    for number in sorted(found):
        at = found[number]
        inner = written_words(store, store.words_at(at))
        lines.append(line_of_words(["thing", str(number), store.sort_at(at), *inner]))
    return lines


def last_line(store):
    """The line of the number of the last thing made."""
    return line_of_words(["last", str(store.last)])


def heap_image(store, pairs):
    """The image of a heap with pairs (handle, word)."""
    held = [line_of_words(["hold", str(handle), written_word(store, word)]) for handle, word in pairs]
    return "".join([last_line(store), *held, *thing_lines(store, [word for _, word in pairs])])


def machine_image(core):
    """The image of a machine."""
    store = core.store
    lines = [line_of_words(["ticks", str(core.counted)])]
    for said in core.said:
        lines.append(line_of_words(["said", *[str(ord(sign)) for sign in said]]))
    lines.append(line_of_words(["tops", *written_words(store, core.top_words)]))
    lines.append(line_of_words(["queue", *[str(number) for number in core.queue]]))
    for number in range(len(core.strands)):
        lines.extend(thread_lines(core, number))
    return "".join([*lines, last_line(store), *thing_lines(store, core.root_words())])


def thread_lines(core, number):
    """The lines of a thread."""
    strand = core.strands[number]
    if strand.ending != "":
        return [line_of_words([strand.ending, written_word(core.store, strand.left_words[0])])]
    state = ["waits", str(core.awaited[number])] if number in core.awaited else ["ready"]
    lines = [line_of_words(state)]
    for frame in strand.frames:
        lines.extend(frame_lines(core.store, frame))
    return lines


def frame_lines(store, frame):
    """The four lines of a frame."""
    return [
        line_of_words(["frame", str(frame.code), str(frame.row)]),
        line_of_words(["slots", *written_words(store, frame.slots)]),
        line_of_words(["calls", written_word(store, frame.called[0])]),
        line_of_words(["pile", *written_words(store, frame.pile)]),
    ]
