"""The lines that values are put out as."""

from unseenheap.laying import is_things
from unseenheap.signs import text_of_words
from unseenheap.tellings import value_of_word
from unseenheap.values import plain_line
from unseenheap.words import TAGS


def line_of_word(core, word):
    """The line that say puts out for a value of a machine."""
    store = core.store
    if not is_things(word):
        return plain_line(value_of_word(store, word))
    at = word // TAGS
    sort = store.sort_at(at)
    if sort == "text":
        return text_of_words(store.words_at(at))
    if sort == "list":
        return "list " + str(store.size_at(at))
    if sort == "object":
        return "object " + core.plan.unit.classes[store.read(at, 0) // TAGS][0]
    if sort == "function":
        return "function " + core.plan.unit.codes[store.read(at, 0) // TAGS].name
    return "tie"


def ends_of(core):
    """What the threads gave or threw, as lines, None for those that are not over."""
    found = []
    for strand in core.strands:
        if strand.ending == "":
            found.append(None)
        else:
            found.append((strand.ending, line_of_word(core, strand.left_words[0])))
    return found
