"""Audits of layouts: eight sentences, each of which is asked only if all ahead of it hold."""

from unseenheap.kinds import is_integer
from unseenheap.laying import AHEAD, SORTS, Laid, is_things, may_be_many, may_stand
from unseenheap.rooms import Room
from unseenheap.words import TAGS, is_word


def are_integers(thing):
    """Whether a thing is a tuple of integers."""
    return isinstance(thing, tuple) and all([is_integer(part) for part in thing])


def are_roots(thing):
    """Whether a thing is a tuple of pairs of a handle and an integer, ascending by their handles."""
    if not isinstance(thing, tuple):
        return False
    least = 0
    for pair in thing:
        if not are_integers(pair) or len(pair) != 2 or pair[0] < least:
            return False
        least = pair[0] + 1
    return True


class Audit:
    """A layout with what was found in it so far: the addresses of the things that lie in each part."""

    def __init__(self, layout):
        self.told = layout
        self.numbers = {}
        self.young_ones = []
        self.used_ones = []
        # Those that were not copied.
        self.left_ones = []
        # Where things begin, in whatever part.
        self.begins = {}

    def first_broken(self):
        """The number of the first sentence that doesn't hold, or None."""
        if not self.has_parts():
            return 1
        if not self.has_bounds():
            return 2
        if not self.has_things():
            return 3
        if not self.has_left_things():
            return 4
        if not self.has_right_words():
            return 5
        if not self.leads_nowhere_back():
            return 6
        if not self.remembers_all():
            return 7
        return None if self.is_within_room() else 8

    def half_in_use(self):
        """Where the half in use begins."""
        return self.told.room.young + self.told.use * self.told.room.old

    def half_left(self):
        """Where the other half begins."""
        return self.told.room.young + (1 - self.told.use) * self.told.room.old

    def has_parts(self):
        """Whether all parts are of the kinds that they should be."""
        told = self.told
        if not isinstance(told.room, Room) or not are_integers(told.words) or not are_integers(told.remembered):
            return False
        if len(told.words) != told.room.young + 2 * told.room.old or not are_roots(told.roots):
            return False
        others = (told.use, told.free, told.scan, told.top, told.left, told.copied, told.last)
        return all([is_integer(part) and part >= 0 for part in others]) and told.use <= 1

    def has_bounds(self):
        """Whether all places are within what they are places of."""
        told = self.told
        begin = self.half_in_use()
        if told.top > told.room.young or not begin <= told.scan <= told.free <= begin + told.room.old:
            return False
        if told.left > told.room.old or told.copied > told.left:
            return False
        return told.left > 0 or told.scan == told.free

    def has_things(self):
        """Whether things lie one behind another in the nursery and in the half in use."""
        told = self.told
        begin = self.half_in_use()
        if not self.lie(0, told.top, self.young_ones) or not self.lie(begin, told.free, self.used_ones):
            return False
        return told.scan == told.free or told.scan in self.begins

    def lie(self, at, end, found):
        """Whether things that were not copied lie one behind another up to an end; keep where they begin."""
        while at < end:
            if not self.lies(at, end):
                return False
            found.append(at)
            at += AHEAD + self.told.words[at] // TAGS
        return True

    def lies(self, at, end):
        """Whether a thing that was not copied lies at a place, ahead of an end; keep that it begins there."""
        if at + AHEAD > end or self.told.words[at] < 0:
            return False
        head, number = self.told.words[at:at + AHEAD]
        sort, many = head & (TAGS - 1), head // TAGS
        if sort >= len(SORTS) or not may_be_many(SORTS[sort], many) or at + AHEAD + many > end:
            return False
        if not 1 <= number <= self.told.last or number in self.numbers:
            return False
        self.numbers[number] = True
        self.begins[at] = True
        return True

    def has_left_things(self):
        """Whether things lie in the half that is being left, and those that were copied lie in the half in use."""
        at = self.half_left()
        end = at + self.told.left
        copied = 0
        used = {address: True for address in self.used_ones}
        while at < end:
            if self.told.words[at] >= 0:
                if not self.lies(at, end):
                    return False
                self.left_ones.append(at)
                at += AHEAD + self.told.words[at] // TAGS
            else:
                new = -1 - self.told.words[at]
                # What is taken off here is no other thing's copy.
                if new not in used or at + AHEAD > end or self.told.words[at + 1] != self.told.words[new + 1]:
                    return False
                del used[new]
                many = AHEAD + self.told.words[new] // TAGS
                if at + many > end:
                    return False
                self.begins[at] = True
                copied += many
                at += many
        return copied == self.told.copied

    def has_right_words(self):
        """Whether all words are such as may stand where they do, and lead to where things begin."""
        laid = Laid(self.told.words)
        for at in [*self.young_ones, *self.used_ones, *self.left_ones]:
            sort = laid.sort_at(at)
            for place, word in enumerate(laid.words_at(at)):
                if not self.is_right_word(word) or not may_stand(sort, place, word):
                    return False
        return all([self.is_right_word(word) for _, word in self.told.roots])

    def is_right_word(self, word):
        """Whether an integer is a word, and leads, if it is a thing's, to where one begins."""
        return is_word(word) and (not is_things(word) or word // TAGS in self.begins)

    def lead_within(self, found, low, high):
        """Whether one of the words of things leads to a place from low to ahead of high."""
        laid = Laid(self.told.words)
        return any([leads_within(laid.words_at(at), low, high) for at in found])

    def leads_nowhere_back(self):
        """Whether nothing leads to the half that is being left that may not, and nothing from there to the nursery."""
        told = self.told
        low = self.half_left()
        high = low + told.room.old
        if leads_within([word for _, word in told.roots], low, high):
            return False
        looked_at = [at for at in self.used_ones if at < told.scan]
        if self.lead_within([*self.young_ones, *looked_at], low, high):
            return False
        return not self.lead_within(self.left_ones, 0, told.room.young)

    def remembers_all(self):
        """Whether all words that lead into the nursery from without are remembered, and places of words alone."""
        told = self.told
        remembered = {place: True for place in told.remembered}
        if len(remembered) != len(told.remembered):
            return False
        places = {}
        for at in self.used_ones:
            for place in range(at + AHEAD, at + AHEAD + told.words[at] // TAGS):
                places[place] = told.words[place]
        young = [place for place in places if is_things(places[place]) and places[place] // TAGS < told.room.young]
        return all([place in remembered for place in young]) and all([place in places for place in remembered])

    def is_within_room(self):
        """Whether what is taken is no more than a half."""
        told = self.told
        return told.free - self.half_in_use() + told.top + told.left - told.copied <= told.room.old


def leads_within(found, low, high):
    """Whether one of some words leads to a place from low to ahead of high."""
    return any([is_things(word) and low <= word // TAGS < high for word in found])
