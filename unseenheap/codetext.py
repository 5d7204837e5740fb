"""Units as texts: a line for each text, top name, class, field, method, code, row and handler."""

from unseenheap.errors import BadLine
from unseenheap.rowwords import ROWS
from unseenheap.unitreading import UnitReader

# Where a cell is that a function keeps: in a slot, or among those that the function called keeps.
WHERE = ("slot", "kept")


def unit_text(unit):
    """The text of a unit."""
    found = [["text", quoted(text)] for text in unit.texts]
    found.extend([["top", quoted(name), "-" if code is None else str(code)] for name, code in unit.tops])
    for told in unit.classes:
        found.extend(class_rows(told))
    for code in unit.codes:
        found.append(["code", quoted(code.name), str(code.params), str(code.slots), str(code.keeps)])
        found.extend([row_words(row) for row in code.rows])
        found.extend([["on", *[str(part) for part in handler]] for handler in code.handlers])
    return "".join([" ".join(words) + "\n" for words in found])


def quoted(text):
    """A text in quotes; a backslash stands ahead of each backslash and quote in it."""
    return '"' + text.replace("\\", "\\\\").replace('"', '\\"') + '"'


def class_rows(told):
    """The words of the lines of a class."""
    name, elder, fields, methods = told
    found = [["class", quoted(name)] if elder is None else ["class", quoted(name), "of", str(elder)]]
    found.extend([["field", quoted(field)] for field in fields])
    found.extend([["method", quoted(method), str(code)] for method, code in methods])
    return found


def row_words(row):
    """The words of the line of a row."""
    sorts, _, _ = ROWS[row[0]]
    found = [row[0]]
    for sort, part in zip(sorts, row[1:]):
        if sort == "value":
            found.extend(value_words(part))
        elif sort == "cells":
            for where, at in part:
                found.extend([WHERE[where], str(at)])
        else:
            found.append(quoted(part) if sort == "name" else str(part))
    return found


def value_words(value):
    """The words that tell a value to be pushed."""
    if value[0] == "bool":
        return ["true" if value[1] else "false"]
    return [str(part) for part in value]


def read_unit(text):
    """The unit that a text tells."""
    if not isinstance(text, str):
        raise BadLine(0)
    *ended, rest = text.split("\n")
    reader = UnitReader()
    for line, row in enumerate(ended, start=1):
        if not reader.read_line(row):
            raise BadLine(line)
    if rest != "":
        raise BadLine(len(ended) + 1)
    return reader.unit_read()
