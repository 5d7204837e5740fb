"""Bound heaps: a nursery and two halves, between which things are copied.

Words are led on: where one leads to a place that is being left, its thing is copied behind free, and the word leads
there. The places that are being left are told by the first one and the one behind the last.
"""

from unseenheap.errors import HeapFull
from unseenheap.laying import AHEAD, SORT_NUMBERS, TEXT_SORT, TIE_SORT, Laid, is_things
from unseenheap.words import NIL_WORD, TAGS, THING_TAG

GATHERS = 0
TURNS = 1
LOOKS = 2
WHOLES = 3
SWEEPS = 4


class Bound(Laid):
    """A bound heap; its owner tells the lists of words from which things can be come to."""

    def __init__(self, room, owner):
        Laid.__init__(self, [0] * (room.young + 2 * room.old))
        self.room = room
        self.owner = owner
        self.use = 0
        self.free = room.young
        self.scan = room.young
        self.top = 0
        # A turn is going just if left is not 0, as one in which nothing is left has ended at once.
        self.left = 0
        self.copied = 0
        # The remembered places, as they were remembered.
        self.remembered = {}
        self.last = 0
        self.tally = [0, 0, 0, 0, 0]

    def begin_of(self, half):
        """Where a half begins."""
        return self.room.young + half * self.room.old

    def filled_words(self):
        """How many words are taken."""
        return self.free - self.begin_of(self.use) + self.top + self.left - self.copied

    def reserve(self, many):
        """See to it that a thing that takes so many words finds its room."""
        if self.filled_words() + many > self.room.old:
            self.end_turn()
        if self.filled_words() + many > self.room.old:
            self.whole()
        if self.filled_words() + many > self.room.old:
            raise HeapFull(many)
        if many <= self.room.young < self.top + many:
            self.gather()

    def place(self, sort, found):
        """Make a thing with words, for which room was reserved; its word."""
        many = len(found) + AHEAD
        self.last += 1
        at = self.top if many <= self.room.young else self.free
        self.words[at:at + many] = [len(found) * TAGS + SORT_NUMBERS[sort], self.last, *found]
        if many <= self.room.young:
            self.top += many
        else:
            self.free += many
            for place, word in enumerate(found):
                self.remember(at + AHEAD + place, word)
            if self.left == 0:
                self.scan = self.free
        if self.left > 0:
            self.steps(self.room.pace)
        return at * TAGS + THING_TAG

    def remember(self, place, word):
        """Remember a place outside the nursery if the word that stands there leads into it."""
        if is_things(word) and word // TAGS < self.room.young:
            self.remembered[place] = True

    def read(self, at, place):
        """The word at a place of the thing at an address; none is handed out that leads to what is being left."""
        if self.left > 0:
            self.lead_left(at + AHEAD + place, at + AHEAD + place + 1)
        return self.words[at + AHEAD + place]

    def read_all(self, at):
        """The words of the thing at an address, none of which leads to what is being left."""
        if self.left > 0 and self.words[at] & (TAGS - 1) != TEXT_SORT:
            self.lead_left(at + AHEAD, at + AHEAD + self.size_at(at))
        return self.words_at(at)

    def write(self, at, place, word):
        """Let a word stand at a place of the thing at an address."""
        self.words[at + AHEAD + place] = word
        if at >= self.room.young:
            self.remember(at + AHEAD + place, word)

    def moved(self, at):
        """The address to which a thing is copied; it is copied behind free, if it was not before."""
        head = self.words[at]
        if head < 0:
            return -1 - head
        new = self.free
        many = head // TAGS + AHEAD
        self.words[new:new + many] = self.words[at:at + many]
        self.words[at] = -1 - new
        self.free += many
        return new

    def lead_on(self, places, low, high):
        """Lead on the words at places that lead to places from low to ahead of high."""
        for place in places:
            word = self.words[place]
            if word & (TAGS - 1) == THING_TAG and low <= word // TAGS < high:
                self.words[place] = self.moved(word // TAGS) * TAGS + THING_TAG

    def lead_roots(self, low, high):
        """Lead on the words from which things can be come to."""
        for row in self.owner.root_rows():
            for place in range(len(row)):
                word = row[place]
                if word & (TAGS - 1) == THING_TAG and low <= word // TAGS < high:
                    row[place] = self.moved(word // TAGS) * TAGS + THING_TAG

    def lead_left(self, begin, end):
        """Lead on the words at some places that lead to the half that is being left; how much is copied is kept."""
        ahead = self.free
        low = self.begin_of(1 - self.use)
        self.lead_on(list(range(begin, end)), low, low + self.room.old)
        self.copied += self.free - ahead

    def end_of(self, at):
        """Where the thing at an address ends."""
        return at + AHEAD + self.words[at] // TAGS

    def gather(self):
        """Empty the nursery: what can be come to of it is copied; how many things this are."""
        self.tally[GATHERS] += 1
        at = self.free
        self.lead_roots(0, self.room.young)
        self.lead_on(list(self.remembered), 0, self.room.young)
        many = 0
        while at < self.free:
            if self.words[at] & (TAGS - 1) != TEXT_SORT:
                self.lead_on(list(range(at + AHEAD, self.end_of(at))), 0, self.room.young)
            at = self.end_of(at)
            many += 1
        self.empty_nursery()
        return many

    def empty_nursery(self):
        """Let nothing lie in the nursery, and nothing be remembered."""
        self.top = 0
        self.remembered = {}
        if self.left == 0:
            self.scan = self.free

    def change_halves(self):
        """Use the other half, which is empty; where it begins."""
        self.use = 1 - self.use
        self.free = self.begin_of(self.use)
        self.scan = self.free
        return self.free

    def turn(self):
        """Begin with a turn, if none is going; whether this was done, as a number."""
        if self.left > 0:
            return 0
        self.gather()
        self.tally[TURNS] += 1
        self.left = self.free - self.begin_of(self.use)
        low = self.begin_of(self.use)
        begin = self.change_halves()
        self.lead_roots(low, low + self.room.old)
        self.copied = self.free - begin
        self.end_if_done()
        return 1

    def end_if_done(self):
        """End a turn of which nothing more is to be looked at."""
        if self.scan == self.free:
            self.left = 0
            self.copied = 0

    def steps(self, many):
        """Look at so many things of a turn that is going, or as many as there are; how many."""
        looked = 0
        while self.left > 0 and looked < many:
            at = self.scan
            self.scan = self.end_of(at)
            if self.words[at] & (TAGS - 1) != TEXT_SORT:
                self.lead_left(at + AHEAD, self.scan)
            self.end_if_done()
            looked += 1
        self.tally[LOOKS] += looked
        return looked

    def end_turn(self):
        """End a turn that is going; no more things are looked at than there are words."""
        self.steps(len(self.words))

    def whole(self):
        """Copy all living things, and these alone, to the other half; how many words they take."""
        self.end_turn()
        self.tally[WHOLES] += 1
        begin = self.copy_all(True)
        return self.free - begin

    def copy_all(self, is_tie_followed):
        """Copy to the other half what can be come to, through ties or not; where this half begins."""
        at = self.change_halves()
        begin = at
        self.lead_roots(0, len(self.words))
        while at < self.free:
            sort = self.words[at] & (TAGS - 1)
            # Each word is looked at once, so all that lead to things still lead to what is being left.
            if sort != TEXT_SORT and (is_tie_followed or sort != TIE_SORT):
                self.lead_on(list(range(at + AHEAD, self.end_of(at))), 0, len(self.words))
            at = self.end_of(at)
        self.empty_nursery()
        return begin

    def sweep(self):
        """Copy what is reached, and give nil to ties with things that are not; the numbers of these ties."""
        self.end_turn()
        self.tally[SWEEPS] += 1
        at = self.copy_all(False)
        swept = []
        while at < self.free:
            if self.words[at] & (TAGS - 1) == TIE_SORT and is_things(self.words[at + AHEAD]):
                head = self.words[self.words[at + AHEAD] // TAGS]
                if head < 0:
                    self.words[at + AHEAD] = (-1 - head) * TAGS + THING_TAG
                else:
                    self.words[at + AHEAD] = NIL_WORD
                    swept.append(self.number_at(at))
            at = self.end_of(at)
        return tuple(sorted(swept))

    def counted_deeds(self):
        """How often gather, turns, looks, whole and sweeps were done."""
        return tuple(self.tally)

    def told_words(self):
        """All words, with 0 where nothing lies."""
        found = [0] * len(self.words)
        other = self.begin_of(1 - self.use)
        begin = self.begin_of(self.use)
        for low, high in ((0, self.top), (begin, self.free), (other, other + self.left)):
            found[low:high] = self.words[low:high]
        return tuple(found)

    def settle(self, things, last):
        """Let things (number, sort, worths) lie in the half in use; their words, by their numbers."""
        self.last = last
        found = {}
        at = self.free
        for number, _, worths in things:
            found[number] = at * TAGS + THING_TAG
            at += len(worths) + AHEAD
        for number, sort, worths in things:
            inner = [found[worth] if word == "thing" else worth for word, worth in worths]
            many = len(inner) + AHEAD
            self.words[self.free:self.free + many] = [len(inner) * TAGS + SORT_NUMBERS[sort], number, *inner]
            self.free += many
        self.scan = self.free
        return found

    def twin(self, owner):
        """A bound heap in which all lies alike, for another owner."""
        made = Bound(self.room, owner)
        made.words = list(self.words)
        made.use = self.use
        made.free = self.free
        made.scan = self.scan
        made.top = self.top
        made.left = self.left
        made.copied = self.copied
        made.remembered = {place: True for place in self.remembered}
        made.last = self.last
        made.tally = list(self.tally)
        return made
