"""What a machine's image claims in its lines, judged by all of its threads and things."""

from unseenheap.classes import fields_of
from unseenheap.errors import BadImage
from unseenheap.imagelines import living_among, numbers_in
from unseenheap.signs import words_of_text
from unseenheap.words import TAGS, THREAD_TAG


class Claims:
    """The threads and things of an image that was read."""

    def __init__(self, image):
        self.unit = image.unit
        self.claims = image.claims
        self.many_threads = len(image.threads_read)
        self.ready = [number for number, thread in enumerate(image.threads_read) if thread.state == "ready"]
        self.sorts = {number: sort for number, sort, _, _ in image.things_read}
        self.thing_worths = {number: worths for number, _, worths, _ in image.things_read}
        self.alive = living_among(self.thing_worths, self.root_numbers())

    def root_numbers(self):
        """The numbers of the things from which others can be come to."""
        found = list(range(1, len(self.unit.texts) + 1))
        for word, _, told in self.claims:
            if word == "worths":
                found.extend(numbers_in([worth for worth, _ in told]))
            elif word == "calls":
                found.extend(numbers_in([told[0]]))
        return found

    def check(self):
        """Refuse the first line that claims what can't be."""
        for word, line, told in self.claims:
            if not self.holds(word, told):
                raise BadImage(line)

    def holds(self, word, told):
        """Whether what a line claims can be."""
        if word == "worths":
            return all([self.may_be_in(worth, sort) for worth, sort in told])
        if word == "queue":
            return sorted(told) == self.ready
        if word == "waits":
            return told < self.many_threads
        if word == "calls":
            return self.may_be_called(told[0], told[1])
        if word == "last":
            return all([number in self.sorts for number in range(1, len(self.unit.texts) + 1)])
        number, sort, worths = told
        return number in self.alive and self.is_right_thing(number, sort, worths)

    def may_be_in(self, worth, sort):
        """Whether a worth may be in a slot of a sort; elsewhere all are as in slots with values."""
        kind, told = worth
        if kind == "word":
            is_there = told & (TAGS - 1) != THREAD_TAG or told // TAGS < self.many_threads
            return is_there and sort != "cell"
        if told not in self.sorts:
            return False
        return sort == "unset" or (self.sorts[told] == "cell") == (sort == "cell")

    def may_be_called(self, worth, code):
        """Whether a worth may be the function called of a code; whether it may be none was asked before."""
        kind, told = worth
        if kind == "word":
            return True
        return self.sorts.get(told, "") == "function" and self.head_of(told) == code

    def head_of(self, number):
        """The class of an object, or the code of a function."""
        return self.thing_worths[number][0][1] // TAGS

    def is_right_thing(self, number, sort, worths):
        """Whether a thing can be."""
        if number <= len(self.unit.texts):
            return sort == "text" and [word for _, word in worths] == words_of_text(self.unit.texts[number - 1])
        if sort == "object":
            return self.is_right_object(self.head_of(number), worths)
        if sort == "function":
            return self.is_right_function(self.head_of(number), worths)
        return all([self.may_be_in(worth, "value") for worth in worths])

    def is_right_object(self, number, worths):
        """Whether worths are those of an object of a class."""
        if not 0 <= number < len(self.unit.classes):
            return False
        if len(worths) != len(fields_of(self.unit.classes, number)) + 1:
            return False
        return all([self.may_be_in(worth, "value") for worth in worths[1:]])

    def is_right_function(self, code, worths):
        """Whether worths are those of a function of a code."""
        if not 0 <= code < len(self.unit.codes) or len(worths) != self.unit.codes[code].keeps + 1:
            return False
        return all([self.may_be_in(worth, "cell") for worth in worths[1:]])
