"""The lines of a unit's text, read one by one."""

from unseenheap.figures import integer_written, number_written
from unseenheap.rowwords import ROWS, is_formed_row
from unseenheap.units import Code, Unit

MOST_FIGURES = 20
WHERE = {"slot": 0, "kept": 1}
FLAGS = {"true": True, "false": False}
# It stays ahead of a text that was read, so that no text is taken for a word.
QUOTE = '"'


def cut(row):
    """The words of a line, texts in quotes with the first quote alone, or None for a line that is not written so."""
    found = []
    at = 0
    while at <= len(row):
        end = end_of_word(row, at)
        if end is None or end < len(row) and row[end] != " ":
            return None
        found.append(unquoted(row[at:end]) if row[at] == QUOTE else row[at:end])
        at = end + 1
    return found


def end_of_word(row, at):
    """Where the word ends that begins at a place of a line, or None if none does."""
    if row[at:at + 1] != QUOTE:
        end = row.find(" ", at)
        end = len(row) if end < 0 else end
        return end if end > at else None
    at += 1
    while at < len(row) and row[at] != QUOTE:
        if row[at] == "\\" and row[at + 1:at + 2] not in ("\\", QUOTE):
            return None
        at += 2 if row[at] == "\\" else 1
    return at + 1 if at < len(row) else None


def unquoted(word):
    """The signs of a text in quotes, with a quote ahead."""
    found = [QUOTE]
    at = 1
    while at < len(word) - 1:
        if word[at] == "\\":
            at += 1
        found.append(word[at])
        at += 1
    return "".join(found)


def text_in(word):
    """The text that a word is, or None if it is none."""
    return word[1:] if word.startswith(QUOTE) else None


def number_in(word):
    """The number that a word is, or None if it is none."""
    return number_written(word, MOST_FIGURES)


def row_in(words):
    """The row that words tell, or None if they tell none."""
    if words[0] not in ROWS:
        return None
    sorts, _, _ = ROWS[words[0]]
    if "value" in sorts:
        row = (words[0], value_in(words[1:]))
    elif "cells" in sorts:
        row = (words[0], number_in(words[1]), cells_in(words[2:])) if len(words) > 1 else ()
    else:
        row = (words[0], *[part_in(sort, word) for sort, word in zip(sorts, words[1:])])
        if len(words) != len(row):
            return None
    return row if is_formed_row(row) else None


def part_in(sort, word):
    """A name or a number of a row, or None if a word is none."""
    return text_in(word) if sort == "name" else number_in(word)


def value_in(words):
    """The value to be pushed that words tell, or None if they tell none."""
    if len(words) == 1:
        return ("bool", FLAGS[words[0]]) if words[0] in FLAGS else (words[0],)
    if len(words) != 2:
        return None
    return (words[0], integer_written(words[1], MOST_FIGURES) if words[0] == "int" else words[1])


def cells_in(words):
    """The cells that words tell, or None if they tell none."""
    if len(words) != len(words) // 2 * 2:
        return None
    found = []
    for at in range(0, len(words), 2):
        found.append((WHERE.get(words[at]), number_in(words[at + 1])))
    return tuple(found)


class UnitReader:
    """What was read of a unit so far; parts of classes and codes are in lists."""

    def __init__(self):
        self.texts_read = []
        self.tops_read = []
        self.classes_read = []
        self.codes_read = []

    def read_line(self, line):
        """Read a line; whether it is written so, and may stand there."""
        words = cut(line)
        if words is None:
            return False
        if words[0] == "code":
            return self.read_code(words)
        if self.codes_read:
            return self.read_handler(words) if words[0] == "on" else self.read_row(words)
        if words[0] == "class":
            return self.read_class(words)
        if self.classes_read:
            return self.read_field(words) if words[0] == "field" else self.read_method(words)
        if words[0] == "top":
            return self.read_top(words)
        return not self.tops_read and self.read_text(words)

    def read_text(self, words):
        """Read a text."""
        if len(words) != 2 or words[0] != "text" or text_in(words[1]) is None:
            return False
        self.texts_read.append(text_in(words[1]))
        return True

    def read_top(self, words):
        """Read a top name."""
        if len(words) != 3 or text_in(words[1]) is None or words[2] != "-" and number_in(words[2]) is None:
            return False
        self.tops_read.append((text_in(words[1]), None if words[2] == "-" else number_in(words[2])))
        return True

    def read_class(self, words):
        """Read the begin of a class."""
        if len(words) not in (2, 4) or text_in(words[1]) is None:
            return False
        elder = None
        if len(words) == 4:
            elder = number_in(words[3])
            if words[2] != "of" or elder is None:
                return False
        self.classes_read.append((text_in(words[1]), elder, [], []))
        return True

    def read_field(self, words):
        """Read a field of the last class; no method stands ahead of it."""
        _, _, fields, methods = self.classes_read[-1]
        if len(words) != 2 or text_in(words[1]) is None or methods:
            return False
        fields.append(text_in(words[1]))
        return True

    def read_method(self, words):
        """Read a method of the last class."""
        _, _, _, methods = self.classes_read[-1]
        if len(words) != 3 or words[0] != "method" or text_in(words[1]) is None or number_in(words[2]) is None:
            return False
        methods.append((text_in(words[1]), number_in(words[2])))
        return True

    def read_code(self, words):
        """Read the begin of a code."""
        if len(words) != 5 or text_in(words[1]) is None:
            return False
        counts = [number_in(word) for word in words[2:]]
        if None in counts:
            return False
        self.codes_read.append((text_in(words[1]), counts, [], []))
        return True

    def read_row(self, words):
        """Read a row of the last code; no handler stands ahead of it."""
        _, _, rows, handlers = self.codes_read[-1]
        row = row_in(words)
        if row is None or handlers:
            return False
        rows.append(row)
        return True

    def read_handler(self, words):
        """Read a handler of the last code."""
        _, _, _, handlers = self.codes_read[-1]
        parts = [number_in(word) for word in words[1:]]
        if len(parts) != 4 or None in parts:
            return False
        handlers.append(tuple(parts))
        return True

    def unit_read(self):
        """The unit that was read."""
        codes = []
        for name, (params, slots, keeps), rows, handlers in self.codes_read:
            codes.append(Code(name, params, slots, keeps, tuple(rows), tuple(handlers)))
        classes = [
            (name, elder, tuple(fields), tuple(methods)) for name, elder, fields, methods in self.classes_read
        ]
        return Unit(tuple(self.texts_read), tuple(self.tops_read), tuple(classes), tuple(codes))
