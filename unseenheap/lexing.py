"""The words of a program's text."""

from unseenheap.errors import BadText, NoText

LETTERS = "abcdefghijklmnopqrstuvwxyzABCDEFGHIJKLMNOPQRSTUVWXYZ_"
FIGURES = "0123456789"
KEYS = (
    "class", "of", "fun", "var", "if", "else", "while", "break", "continue", "return", "throw", "try",
    "catch", "say", "true", "false", "nil", "this", "super", "new", "and", "or", "not", "len", "weak",
    "worth", "number", "spawn", "join", "yield", "mod",
)
MARKS = "()[]{},;.=<>+-*/"
DOUBLE_MARKS = ("==", "!=", "<=", ">=")
MOST_SIGNS = 20
GREATEST = 2 ** 59 - 1
MOST_FIGURES = 18
BARRED = 37


def words(text):
    """The list of the triples (sort, word, line) of a program's text."""
    if not isinstance(text, str):
        raise NoText()
    found = []
    for line, row in enumerate(text.split("\n"), start=1):
        found.extend(words_of_line(row, line))
    return found


def words_of_line(row, line):
    """The triples of one line: no word and no note goes beyond its end."""
    found = []
    at = 0
    while at < len(row):
        if row[at] == " ":
            at += 1
        elif row[at] == "#":
            if not is_plain(row[at:]):
                raise BadText(line)
            at = len(row)
        else:
            sort, word, at = word_at(row, at, line)
            found.append((sort, word, line))
    return found


def word_at(row, at, line):
    """The sort of the word that begins at a place, the word, and the place behind it."""
    sign = row[at]
    if is_of_stretch(sign):
        return stretch_at(row, at, line)
    if sign == '"':
        return text_at(row, at, line)
    if row[at:at + 2] in DOUBLE_MARKS:
        return "mark", row[at:at + 2], at + 2
    if sign in MARKS:
        return "mark", sign, at + 1
    raise BadText(line)


def stretch_at(row, at, line):
    """The name, key or number that begins at a place, told as by word_at."""
    end = at
    while end < len(row) and is_of_stretch(row[end]):
        end += 1
    stretch = row[at:end]
    if stretch in KEYS:
        return "key", stretch, end
    if is_name(stretch):
        return "name", stretch, end
    if is_number_word(stretch):
        return "number", int(stretch), end
    raise BadText(line)


def text_at(row, at, line):
    """The text that begins at a place, told as by word_at."""
    signs = []
    at += 1
    while at < len(row):
        if row[at] == '"':
            if row[at + 1:at + 2] != '"':
                return "text", "".join(signs), at + 1
            at += 1
        if not is_plain(row[at]):
            raise BadText(line)
        signs.append(row[at])
        at += 1
    raise BadText(line)


def is_of_stretch(sign):
    """Whether a sign is a letter, a figure or _."""
    return sign in LETTERS or sign in FIGURES


def is_number_word(stretch):
    """Whether a stretch is a number; the figures are counted first, as Python reads only so many."""
    if len(stretch) > MOST_FIGURES or not all([sign in FIGURES for sign in stretch]):
        return False
    if stretch[0] == "0":
        return stretch == "0"
    return int(stretch) <= GREATEST


def is_name(thing):
    """Whether a thing is a word that is a name."""
    if not isinstance(thing, str) or not 1 <= len(thing) <= MOST_SIGNS or thing in KEYS:
        return False
    return thing[0] in LETTERS and all([is_of_stretch(sign) for sign in thing])


def is_plain(thing):
    """Whether a thing is a string of signs that may stand in texts and notes."""
    if not isinstance(thing, str):
        return False
    return all([32 <= ord(sign) <= 126 and ord(sign) != BARRED for sign in thing])
