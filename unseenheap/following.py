"""What can be come to by words: the same for all kinds of heaps and for layouts.

A store tells of things by their addresses: settled, sort_at, size_at, number_at, words_at. It may be that a word has
an elder address of a thing; settled tells the one that the thing has by now.
"""

from unseenheap.laying import AHEAD, is_things
from unseenheap.words import TAGS


def addresses_in(store, found):
    """The addresses to which words lead, in order."""
    return [store.settled(word // TAGS) for word in found if is_things(word)]


def come_to(store, begins, is_tie_followed):
    """The addresses of all things, by their numbers, that can be come to from words."""
    waiting = addresses_in(store, begins)
    found = {}
    while waiting:
        at = waiting.pop()
        if store.number_at(at) not in found:
            found[store.number_at(at)] = at
            sort = store.sort_at(at)
            if sort != "text" and (is_tie_followed or sort != "tie"):
                waiting.extend(addresses_in(store, store.words_at(at)))
    return found


def worth_of(store, word):
    """What a word is worth: itself, or the number of a thing."""
    if is_things(word):
        return ("thing", store.number_at(store.settled(word // TAGS)))
    return ("word", word)


def meaning_from(store, roots):
    """The pair of handles and things that pairs (handle, word) mean."""
    held = tuple([(handle, worth_of(store, word)) for handle, word in roots])
    found = come_to(store, [word for _, word in roots], True)
    things = []
    for number in sorted(found):
        at = found[number]
        worths = tuple([worth_of(store, word) for word in store.words_at(at)])
        things.append((number, store.sort_at(at), worths))
    return (held, tuple(things))


def room_of(store, found):
    """How many words of room things take."""
    return sum([store.size_at(at) + AHEAD for at in list(found.values())])


def way_from(store, roots, number):
    """The least of the shortest ways from pairs (handle, word) to the thing with a number, or None."""
    whence = {}
    waiting = []
    for handle, word in roots:
        note_way(store, whence, waiting, None, handle, word)
    # Ways are found the shortest first, then the least, as things wait in the order of their ways.
    for_next = 0
    while number not in whence and for_next < len(waiting):
        at = waiting[for_next]
        for_next += 1
        if store.sort_at(at) != "text":
            for place, word in enumerate(store.words_at(at)):
                note_way(store, whence, waiting, store.number_at(at), place, word)
    return way_told(whence, number)


def note_way(store, whence, waiting, holder, place, word):
    """Keep whence a word's thing was come to, if it was not before."""
    if is_things(word):
        at = store.settled(word // TAGS)
        number = store.number_at(at)
        if number not in whence:
            whence[number] = (holder, place)
            waiting.append(at)


def way_told(whence, number):
    """The way to a thing, told by whence all things on it were come to."""
    if number not in whence:
        return None
    found = []
    while number is not None:
        holder, place = whence[number]
        found.append(place)
        number = holder
    return tuple(found[::-1])


def holders_from(store, roots, number):
    """The list of the pairs (number, place), or (0, handle), where a word leads to the thing with a number."""
    wanted = ("thing", number)
    found = [(0, handle) for handle, word in roots if worth_of(store, word) == wanted]
    living = come_to(store, [word for _, word in roots], True)
    for holder in sorted(living):
        if store.sort_at(living[holder]) != "text":
            for place, word in enumerate(store.words_at(living[holder])):
                if worth_of(store, word) == wanted:
                    found.append((holder, place))
    return found
