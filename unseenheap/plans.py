"""What a machine knows of its unit, whatever it is told: the same for all its copies."""

from unseenheap.classes import fields_of, method_of
from unseenheap.judging import Judge
from unseenheap.tellings import word_of_value


class Plan:
    """A unit with its rows, values to be pushed standing as words, and the first handler around each row."""

    def __init__(self, unit):
        self.unit = unit
        self.rows = [[row_with_word(row) for row in code.rows] for code in unit.codes]
        self.around = [Judge(unit, number).around for number in range(len(unit.codes))]
        # What was asked of classes, by their numbers.
        self.fields_known = {}
        self.answers_known = {}

    def field_places(self, number):
        """The places in an object of the fields of its class, by their names."""
        if number not in self.fields_known:
            names = fields_of(self.unit.classes, number)
            self.fields_known[number] = {name: place for place, name in enumerate(names, start=1)}
        return self.fields_known[number]

    def answer(self, number, name):
        """The number of the code by which a class answers, or None."""
        if (number, name) not in self.answers_known:
            self.answers_known[(number, name)] = method_of(self.unit.classes, number, name)
        return self.answers_known[(number, name)]


def row_with_word(row):
    """A row, in which a word stands in the place of a value to be pushed."""
    return ("push", word_of_value(row[1])) if row[0] == "push" else row
