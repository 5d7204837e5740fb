"""The lines of an image, taken one by one; words of the heap are told by what they are worth."""

from unseenheap.errors import BadImage
from unseenheap.figures import integer_written, number_written
from unseenheap.laying import AHEAD, SORTS, is_things, may_be
from unseenheap.words import THING_TAG, is_word

MOST_FIGURES = 25


class ImageLines:
    """An image's lines with the place that has been come to; what is behind the last line feed is no line."""

    def __init__(self, text):
        *ended, rest = text.split("\n")
        self.found = ended
        self.has_rest = rest != ""
        self.at = 0

    def is_at_end(self):
        """Whether no line is left."""
        return self.at == len(self.found)

    def first_word(self, at):
        """The first word of a line, "" behind the last one."""
        return self.found[at].split(" ")[0] if at < len(self.found) else ""

    def refuse(self):
        """Tell that the next line, or the end of the text, can't stand there."""
        raise BadImage(self.at + 1)

    def refuse_unless(self, is_right):
        """Tell that the next line can't stand there, if it can't."""
        if not is_right:
            self.refuse()

    def told_behind(self, word):
        """What stands behind a word with which the next line begins; the line stays the next one."""
        if self.is_at_end():
            self.refuse()
        head, *rest = self.found[self.at].split(" ")
        self.refuse_unless(head == word)
        return rest

    def number(self, part):
        """The number that is written in the next line."""
        found = number_written(part, MOST_FIGURES)
        self.refuse_unless(found is not None)
        return found

    def worth(self, part):
        """The worth of a word of the heap that is written in the next line."""
        found = None
        if part.startswith("t"):
            found = number_written(part[1:], MOST_FIGURES)
        elif part.startswith("w"):
            found = integer_written(part[1:], MOST_FIGURES)
        self.refuse_unless(found is not None)
        if part.startswith("t"):
            return ("thing", found)
        self.refuse_unless(is_word(found) and not is_things(found))
        return ("word", found)

    def worths(self, told):
        """The tuple of the worths of words of the heap that are written in the next line."""
        return tuple([self.worth(part) for part in told])

    def leave(self):
        """Go on with the line behind the next one; the number of the line that is left, from 1 on."""
        self.at += 1
        return self.at

    def one_number(self, word):
        """The number that stands alone behind a word in the next line, which is left."""
        told = self.told_behind(word)
        self.refuse_unless(len(told) == 1)
        found = self.number(told[0])
        self.leave()
        return found

    def things_to_end(self, last):
        """The list of (number, sort, worths, line) of all lines up to the end of the text."""
        found = []
        least = 1
        while not self.is_at_end():
            told = self.told_behind("thing")
            self.refuse_unless(len(told) >= 2)
            number = self.number(told[0])
            self.refuse_unless(least <= number <= last and told[1] in SORTS)
            worths = self.worths(told[2:])
            self.refuse_unless(may_be(told[1], [stand_in(worth) for worth in worths]))
            found.append((number, told[1], worths, self.leave()))
            least = number + 1
        if self.has_rest:
            self.refuse()
        return found


def stand_in(worth):
    """A word of the heap that may stand just where words of a worth may."""
    return THING_TAG if worth[0] == "thing" else worth[1]


def numbers_in(worths):
    """The numbers of the things among worths."""
    return [number for kind, number in worths if kind == "thing"]


def living_among(things, begins):
    """The numbers of the things, worths by numbers, that can be come to from numbers; those not there are left out."""
    waiting = list(begins)
    found = {}
    while waiting:
        number = waiting.pop()
        if number in things and number not in found:
            found[number] = True
            waiting.extend(numbers_in(things[number]))
    return found


def room_of_things(things):
    """How many words of room things (number, sort, worths, line) take."""
    return sum([len(worths) + AHEAD for _, _, worths, _ in things])
