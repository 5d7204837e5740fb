"""Endless heaps: things of which none ever goes, or is moved; the address of each is its number."""

from unseenheap.following import come_to
from unseenheap.laying import is_things
from unseenheap.words import NIL_WORD, TAGS, THING_TAG


class Endless:
    """An endless heap; its owner tells the lists of words from which things can be come to."""

    def __init__(self, owner):
        self.room = None
        self.owner = owner
        self.last = 0
        # The pair of a sort and a list of words, by the number of each thing.
        self.kept = {}

    def settled(self, at):
        """Where the thing with an address lies by now."""
        return at

    def sort_at(self, at):
        """The sort of the thing at an address."""
        return self.kept[at][0]

    def size_at(self, at):
        """How many words the thing at an address has."""
        return len(self.kept[at][1])

    def number_at(self, at):
        """The number of the thing at an address."""
        return at

    def words_at(self, at):
        """The words of the thing at an address, in order."""
        return self.kept[at][1]

    def reserve(self, many):
        """There is always room for so many words."""

    def place(self, sort, found):
        """Make a thing with words, for which room was reserved; its word."""
        self.last += 1
        self.kept[self.last] = (sort, list(found))
        return self.last * TAGS + THING_TAG

    def read(self, at, place):
        """The word at a place of the thing at an address."""
        return self.kept[at][1][place]

    def read_all(self, at):
        """The words of the thing at an address."""
        return list(self.kept[at][1])

    def write(self, at, place, word):
        """Let a word stand at a place of the thing at an address."""
        self.kept[at][1][place] = word

    def gather(self):
        """Nothing is to be copied."""
        return 0

    def turn(self):
        """Nothing is to be left."""
        return 0

    def steps(self, _many):
        """Nothing is to be looked at."""
        return 0

    def whole(self):
        """Nothing is to be copied."""
        return 0

    def sweep(self):
        """Give nil to reached ties with things that are not reached; the numbers of these ties."""
        found = come_to(self, self.root_words(), False)
        swept = []
        for number in sorted(found):
            sort, inner = self.kept[number]
            if sort == "tie" and is_things(inner[0]) and inner[0] // TAGS not in found:
                inner[0] = NIL_WORD
                swept.append(number)
        return tuple(swept)

    def counted_deeds(self):
        """How often deeds were done, which do nothing here."""
        return (0, 0, 0, 0, 0)

    def root_words(self):
        """The words from which things can be come to, in order."""
        found = []
        for row in self.owner.root_rows():
            found.extend(row)
        return found

    def settle(self, things, last):
        """Let things (number, sort, worths) be there, and no others; their words, by their numbers."""
        self.last = last
        found = {number: number * TAGS + THING_TAG for number, _, _ in things}
        for number, sort, worths in things:
            inner = [found[worth] if word == "thing" else worth for word, worth in worths]
            self.kept[number] = (sort, inner)
        return found

    def twin(self, owner):
        """An endless heap with the same things for another owner."""
        made = Endless(owner)
        made.last = self.last
        made.kept = {number: (sort, list(inner)) for number, (sort, inner) in self.kept.items()}
        return made
