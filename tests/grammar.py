"""The form of programs as plain lines of a grammar, and with which of given words no program goes on.

This is told apart from the package: an Earley recogniser keeps every way in which the words so far may be read, and
the first word behind which no way is left is the one with which no program goes on.
"""

import random

RULES = {
    "program": ["", "program item"],
    "item": ["class", "function", "statement"],
    "class": ["'class NAME elder '{ fields methods '}"],
    "elder": ["", "'of NAME"],
    "fields": ["", "fields NAME ';"],
    "methods": ["", "methods NAME params block"],
    "function": ["'fun NAME params block"],
    "params": ["'( ')", "'( names ')"],
    "names": ["NAME", "names ', NAME"],
    "block": ["'{ statements '}"],
    "statements": ["", "statements statement"],
    "statement": [
        "'var NAME '= e ';", "e ';", "place '= e ';", "'if e block", "'if e block 'else block", "'while e block",
        "'break ';", "'continue ';", "'return e ';", "'throw e ';", "'try block 'catch NAME block", "'say e ';",
    ],
    "place": ["NAME", "e8 '. NAME", "e8 '[ e ']", "'( place ')"],
    "e": ["e 'or e2", "e2"],
    "e2": ["e2 'and e3", "e3"],
    "e3": ["'not e3", "e4"],
    "e4": ["e5"] + [f"e5 '{sign} e5" for sign in ("==", "!=", "<", "<=", ">", ">=")],
    "e5": ["e5 '+ e6", "e5 '- e6", "e6"],
    "e6": ["e6 '* e7", "e6 '/ e7", "e6 'mod e7", "e7"],
    "e7": ["'- e7", "e8"],
    "e8": ["e8 call", "e8 '. NAME call", "e8 '. NAME", "e8 '[ e ']", "e9"],
    "call": ["'( args ')"],
    "args": ["", "some"],
    "some": ["e", "some ', e"],
    "e9": [
        "NUMBER", "TEXT", "NAME", "'true", "'false", "'nil", "'this", "'( e ')", "'[ args ']", "'fun params block",
        "'super '. NAME call", "'new NAME call", "'yield '( ')",
    ] + [f"'{key} '( e ')" for key in ("len", "weak", "worth", "number", "spawn", "join")],
}
GRAMMAR = {name: [tuple(line.split()) for line in lines] for name, lines in RULES.items()}
NULLABLE = {"program", "elder", "fields", "methods", "statements", "args"}
WORDS = sorted({part[1:] for lines in GRAMMAR.values() for line in lines for part in line if part[0] == "'"})
SORTS = ("NAME", "NUMBER", "TEXT")


def closed(row, rows):
    """All ways that are open at a place, from those that the word ahead of it left open."""
    waiting = list(row)
    seen = set(row)
    while waiting:
        name, line, dot, begin = waiting.pop()
        if dot == len(line):
            new = [(n, l, d + 1, b) for n, l, d, b in (seen if begin == len(rows) else rows[begin])
                   if d < len(l) and l[d] == name]
        elif line[dot] in GRAMMAR:
            new = [(line[dot], other, 0, len(rows)) for other in GRAMMAR[line[dot]]]
            if line[dot] in NULLABLE:
                new.append((name, line, dot + 1, begin))
        else:
            new = []
        for way in new:
            if way not in seen:
                seen.add(way)
                waiting.append(way)
    return seen


def first_refused(words):
    """The place of the first word with which no program goes on, len(words) if some lack, None if it is a program.

    A word is a sort, or a quote with a key or a mark behind it.
    """
    rows = [closed({("program", line, 0, 0) for line in GRAMMAR["program"]}, [])]
    for place, word in enumerate(words):
        moved = {(n, l, d + 1, b) for n, l, d, b in rows[-1] if d < len(l) and l[d] == word}
        if not moved:
            return place
        rows.append(closed(moved, rows))
    is_whole = any(n == "program" and d == len(l) and b == 0 for n, l, d, b in rows[-1])
    return None if is_whole else len(words)


def heights():
    """For each name how many lines must be used one within another at the least, till words alone are left."""
    found = {}
    while len(found) < len(GRAMMAR):
        for name in [name for name in GRAMMAR if name not in found]:
            ready = [height(line, found) for line in GRAMMAR[name] if height(line, found) is not None]
            if ready:
                found[name] = 1 + min(ready)
    return found


def height(line, found):
    """The greatest height of what stands in a line, None as long as it is not known."""
    inner = [found.get(part) for part in line if part in GRAMMAR]
    return None if None in inner else max(inner, default=0)


HEIGHTS = heights()


def made(chance, name="program", most=30):
    """Some words of a form, of lines that go at most so far one within another, if this can be."""
    lines = [line for line in GRAMMAR[name] if height(line, HEIGHTS) < most]
    if not lines:
        lines = [min(GRAMMAR[name], key=lambda line: height(line, HEIGHTS))]
    line = chance.choice(lines)
    if name in ("e", "e2", "e3", "e4", "e5", "e6", "e7", "e8") and chance.random() < 0.5:
        line = lines[-1]
    found = []
    for part in line:
        found.extend(made(chance, part, most - 1) if part in GRAMMAR else [part])
    return found


def changed(chance, words):
    """Words with a few of them left out, put in, exchanged, or all behind a place cut off."""
    words = list(words)
    for _ in range(chance.randrange(3)):
        place = chance.randrange(len(words) + 1)
        other = chance.choice([chance.choice(SORTS), "'" + chance.choice(WORDS)])
        deed = chance.randrange(5)
        if deed == 0:
            words[place:place + 1] = []
        elif deed == 1:
            words[place:place] = [other]
        elif deed == 2:
            words[place:place + 1] = [other]
        elif deed == 3:
            words[place:place + 2] = words[place:place + 2][::-1]
        else:
            words[place:] = []
    return words


def written(words):
    """The words of sorts and quotes as a program's text, one in each line."""
    signs = {"NAME": "x", "NUMBER": "7", "TEXT": '"t"'}
    return "\n".join(signs[word] if word in signs else word[1:] for word in words)


def cases(seed, many):
    """Many words, some of which are a program's."""
    chance = random.Random(seed)
    for _ in range(many):
        words = []
        for _ in range(chance.randrange(1, 4)):
            words.extend(made(chance, "item", chance.randrange(12, 24)))
        yield changed(chance, words)
