"""Heaps: things that are held by handles, in a room or in none."""

from unseenheap.errors import NoHandle, NoItems, NoNumber, NoPlace, NoSort, NoThing
from unseenheap.following import come_to, holders_from, meaning_from, room_of, way_from
from unseenheap.imaging import heap_image
from unseenheap.kinds import is_integer
from unseenheap.laying import AHEAD, SORTS, is_things, may_be, may_stand
from unseenheap.moments import is_many_steps
from unseenheap.rooms import check_room
from unseenheap.stores import layout_with, store_for
from unseenheap.words import TAGS, is_word


class Heap:
    """A heap with a room, or, for None, an endless one."""

    def __init__(self, room):
        check_room(room)
        # For each handle that is held, ascending, the list of its one word.
        self.handles = {}
        self.next_handle = 0
        self.store = store_for(room, self)

    def root_rows(self):
        """The lists of words from which things can be come to, in their order."""
        return list(self.handles.values())

    def root_pairs(self):
        """The tuple of the pairs (handle, word), ascending."""
        return tuple([(handle, row[0]) for handle, row in self.handles.items()])

    def give_handle(self, word):
        """A new handle with a word."""
        handle = self.next_handle
        self.handles[handle] = [word]
        self.next_handle += 1
        return handle

    def word_held(self, handle):
        """The word that a handle has."""
        if not is_integer(handle) or handle not in self.handles:
            raise NoHandle()
        return self.handles[handle][0]

    def address_held(self, handle):
        """The address of the thing that a handle holds."""
        word = self.word_held(handle)
        if not is_things(word):
            raise NoThing()
        return word // TAGS

    def is_item(self, thing):
        """Whether a thing is an item."""
        if not isinstance(thing, tuple) or len(thing) != 2 or not isinstance(thing[0], str):
            return False
        if thing[0] == "held":
            return is_integer(thing[1]) and thing[1] in self.handles
        return thing[0] == "word" and is_word(thing[1]) and not is_things(thing[1])

    def word_of_item(self, item):
        """The word that an item tells of; items that are held have moved whenever their things have."""
        return self.handles[item[1]][0] if item[0] == "held" else item[1]

    def address_with_place(self, handle, place):
        """The address of the thing that a handle holds, if it has this place."""
        at = self.address_held(handle)
        if not is_integer(place) or not 0 <= place < self.store.size_at(at):
            raise NoPlace()
        return at

    def make(self, sort, items):
        """Make a thing; a new handle of it."""
        if not isinstance(sort, str) or sort not in SORTS:
            raise NoSort()
        if not isinstance(items, tuple) or not all([self.is_item(item) for item in items]):
            raise NoItems()
        if not may_be(sort, [self.word_of_item(item) for item in items]):
            raise NoItems()
        self.store.reserve(len(items) + AHEAD)
        return self.give_handle(self.store.place(sort, [self.word_of_item(item) for item in items]))

    def hold(self, item):
        """A new handle with what an item tells of."""
        if not self.is_item(item):
            raise NoItems()
        return self.give_handle(self.word_of_item(item))

    def drop(self, handle):
        """Hold a handle no more."""
        self.word_held(handle)
        del self.handles[handle]

    def item(self, handle):
        """The item that tells what a handle has."""
        word = self.word_held(handle)
        return ("held", handle) if is_things(word) else ("word", word)

    def sort_of(self, handle):
        """The sort of the thing that a handle holds."""
        return self.store.sort_at(self.address_held(handle))

    def size(self, handle):
        """How many words the thing has that a handle holds."""
        return self.store.size_at(self.address_held(handle))

    def number(self, handle):
        """The number of the thing that a handle holds."""
        return self.store.number_at(self.address_held(handle))

    def read(self, handle, place):
        """A new handle with the word at a place of a thing."""
        return self.give_handle(self.store.read(self.address_with_place(handle, place), place))

    def write(self, handle, place, item):
        """Let what an item tells of stand at a place of a thing."""
        at = self.address_with_place(handle, place)
        if not self.is_item(item) or not may_stand(self.store.sort_at(at), place, self.word_of_item(item)):
            raise NoItems()
        self.store.write(at, place, self.word_of_item(item))

    def same(self, handle, other):
        """Whether two handles have one word, or hold one thing."""
        return self.word_held(handle) == self.word_held(other)

    def meaning(self):
        """The pair of all handles and all living things."""
        return meaning_from(self.store, self.root_pairs())

    def layout(self):
        """What lies in this heap, if it is bound."""
        return layout_with(self.store, self.root_pairs())

    def gather(self):
        """Empty the nursery; how many things were copied."""
        return self.store.gather()

    def turn(self):
        """Begin with a turn, if none is going."""
        return self.store.turn()

    def steps(self, many):
        """Look at so many things of a turn; how many were looked at."""
        if not is_many_steps(many):
            raise NoNumber()
        return self.store.steps(many)

    def whole(self):
        """Copy all living things, and these alone; how many words they take."""
        return self.store.whole()

    def sweep(self):
        """Give nil to reached ties with things that are not reached; the numbers of these ties."""
        return self.store.sweep()

    def counts(self):
        """How often gather, turns, looks, whole and sweeps were done."""
        return self.store.counted_deeds()

    def come_to_from_handles(self, is_tie_followed):
        """The addresses of all things, by their numbers, that can be come to from handles."""
        return come_to(self.store, [word for _, word in self.root_pairs()], is_tie_followed)

    def living(self):
        """The numbers of all living things, ascending."""
        return tuple(sorted(self.come_to_from_handles(True)))

    def reached(self):
        """The numbers of all things that are reached, ascending."""
        return tuple(sorted(self.come_to_from_handles(False)))

    def filled(self):
        """How many words of room all living things take."""
        return room_of(self.store, self.come_to_from_handles(True))

    def check_number(self, number):
        """Refuse what is no number of a thing that was made."""
        if not is_integer(number) or not 1 <= number <= self.store.last:
            raise NoNumber()

    def way(self, number):
        """How a thing is come to from a handle, or None for one that doesn't live."""
        self.check_number(number)
        return way_from(self.store, self.root_pairs(), number)

    def holders(self, number):
        """The pairs of things and places, or of 0 and handles, that lead to a thing."""
        self.check_number(number)
        return holders_from(self.store, self.root_pairs(), number)

    def image(self):
        """The text of this heap's meaning."""
        return heap_image(self.store, self.root_pairs())
