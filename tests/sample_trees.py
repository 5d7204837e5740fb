"""Trees of programs made by chance, texts that are theirs, and things that differ from them in one place."""

import random

NAMES = ["a", "b_2", "_", "Zz9", "x" * 20, "classes", "This", "number_"]
TEXTS = ["", "a", '"', 'say "hi";', "# no note", "~ {"]
NUMBERS = [0, 1, 7, 10, 2 ** 59 - 1]
DOUBLE = ["or", "and", "==", "!=", "<", "<=", ">", ">=", "+", "-", "*", "/", "mod"]
ASKED = ["len", "weak", "worth", "number", "spawn", "join"]
LEAVES = ["number", "text", "name", "true", "false", "nil", "this", "list0", "yield", "fun0", "new0", "up0"]
NODES = ["list", "fun", "call", "send", "up", "new", "field", "item", "double", "double", "double", "not", "minus", "ask"]
STATEMENTS = ["var", "do", "set", "if", "while", "break", "continue", "return", "throw", "try", "say"]


class Maker:
    """Parts of trees made by one row of chances."""

    def __init__(self, seed):
        self.chance = random.Random(seed)

    def name(self):
        return self.chance.choice(NAMES)

    def names(self):
        return tuple(self.name() for _ in range(self.chance.randrange(3)))

    def args(self, most):
        return tuple(self.e(most) for _ in range(self.chance.randrange(3)))

    def block(self, most):
        return tuple(self.statement(most) for _ in range(self.chance.randrange(3)))

    def program(self, most=4):
        return tuple(self.item(most) for _ in range(self.chance.randrange(5)))

    def item(self, most):
        sort = self.chance.choice(["class", "function", "statement", "statement"])
        if sort == "class":
            elder = self.chance.choice([None, self.name()])
            methods = tuple((self.name(), self.names(), self.block(most)) for _ in range(self.chance.randrange(3)))
            return ("class", self.name(), elder, self.names(), methods)
        if sort == "function":
            return ("function", self.name(), self.names(), self.block(most))
        return self.statement(most)

    def statement(self, most):
        if most <= 1:
            return self.chance.choice([("break",), ("continue",)])
        word = self.chance.choice(STATEMENTS)
        if word in ("break", "continue"):
            return (word,)
        if word == "var":
            return ("var", self.name(), self.e(most - 1))
        if word == "set":
            return ("set", self.place(most - 1), self.e(most - 1))
        if word == "if":
            return ("if", self.e(most - 1), self.block(most - 1), self.block(most - 1))
        if word == "while":
            return ("while", self.e(most - 1), self.block(most - 1))
        if word == "try":
            return ("try", self.block(most - 1), self.name(), self.block(most - 1))
        return (word, self.e(most - 1))

    def place(self, most):
        sort = self.chance.choice(["name", "field", "item"])
        if most <= 1 or sort == "name":
            return ("name", self.name())
        if sort == "field":
            return ("field", self.e(most - 1), self.name())
        return ("item", self.e(most - 1), self.e(most - 1))

    def e(self, most):
        if most <= 1 or self.chance.random() < 0.2:
            return self.leaf()
        word = self.chance.choice(NODES)
        less = most - 1
        if word == "list":
            return ("list", self.args(less))
        if word == "fun":
            return ("fun", self.names(), self.block(less))
        if word == "call":
            return ("call", self.e(less), self.args(less))
        if word == "send":
            return ("send", self.e(less), self.name(), self.args(less))
        if word in ("up", "new"):
            return (word, self.name(), self.args(less))
        if word == "field":
            return ("field", self.e(less), self.name())
        if word == "item":
            return ("item", self.e(less), self.e(less))
        if word == "double":
            return (self.chance.choice(DOUBLE), self.e(less), self.e(less))
        if word == "ask":
            return ("ask", self.chance.choice(ASKED), (self.e(less),))
        return (word, self.e(less))

    def leaf(self):
        word = self.chance.choice(LEAVES)
        if word == "number":
            return ("number", self.chance.choice(NUMBERS))
        if word == "text":
            return ("text", self.chance.choice(TEXTS))
        if word == "name":
            return ("name", self.name())
        if word in ("up0", "new0"):
            return (word[:-1], self.name(), ())
        return {"list0": ("list", ()), "yield": ("ask", "yield", ()), "fun0": ("fun", (), ())}.get(word, (word,))


class Writer:
    """Texts of trees: every expression within another one stands in parentheses, with needless ones by chance."""

    def __init__(self, seed):
        self.chance = random.Random(seed)

    def program(self, program):
        return self.spaced([word for item in program for word in self.item(item)])

    def spaced(self, words):
        gaps = [" ", "\n", "  ", " # a note; \"\n", "\n\n#\n"]
        return "".join(word + self.chance.choice(gaps) for word in words)

    def item(self, item):
        if item[0] == "class":
            _, name, elder, fields, methods = item
            found = ["class", name] + ([] if elder is None else ["of", elder]) + ["{"]
            for field in fields:
                found += [field, ";"]
            for method, params, block in methods:
                found += [method, *self.params(params), *self.block(block)]
            return found + ["}"]
        if item[0] == "function":
            return ["fun", item[1], *self.params(item[2]), *self.block(item[3])]
        return self.statement(item)

    def params(self, names):
        return self.listed("(", [[name] for name in names], ")")

    def block(self, block):
        return ["{", *[word for statement in block for word in self.statement(statement)], "}"]

    def listed(self, opening, parts, closing):
        found = [opening]
        for at, part in enumerate(parts):
            found += ([","] if at else []) + part
        return found + [closing]

    def args(self, args, opening="(", closing=")"):
        return self.listed(opening, [self.e(arg) for arg in args], closing)

    def statement(self, node):
        word = node[0]
        if word == "var":
            return ["var", node[1], "=", *self.e(node[2]), ";"]
        if word == "do":
            return [*self.e(node[1]), ";"]
        if word == "set":
            return [*self.e(node[1]), "=", *self.e(node[2]), ";"]
        if word == "if":
            other = ["else", *self.block(node[3])] if node[3] or self.chance.random() < 0.3 else []
            return ["if", *self.e(node[1]), *self.block(node[2]), *other]
        if word == "while":
            return ["while", *self.e(node[1]), *self.block(node[2])]
        if word == "try":
            return ["try", *self.block(node[1]), "catch", node[2], *self.block(node[3])]
        return [word, *[part for e in node[1:] for part in self.e(e)], ";"]

    def e(self, node):
        found = self.bare(node)
        return ["(", *found, ")"] if self.chance.random() < 0.1 else found

    def inner(self, node):
        found = self.bare(node)
        return found if len(found) == 1 else ["(", *found, ")"]

    def bare(self, node):
        word = node[0]
        if word == "number":
            return [str(node[1])]
        if word == "text":
            return ['"' + node[1].replace('"', '""') + '"']
        if word == "name":
            return [node[1]]
        if word in ("true", "false", "nil", "this"):
            return [word]
        if word == "list":
            return self.args(node[1], "[", "]")
        if word == "fun":
            return ["fun", *self.params(node[1]), *self.block(node[2])]
        if word == "call":
            return [*self.inner(node[1]), *self.args(node[2])]
        if word == "send":
            return [*self.inner(node[1]), ".", node[2], *self.args(node[3])]
        if word == "up":
            return ["super", ".", node[1], *self.args(node[2])]
        if word == "new":
            return ["new", node[1], *self.args(node[2])]
        if word == "field":
            return [*self.inner(node[1]), ".", node[2]]
        if word == "item":
            return [*self.inner(node[1]), "[", *self.e(node[2]), "]"]
        if word == "ask":
            return [node[1], *self.args(node[2])]
        if word in ("not", "minus"):
            return ["not" if word == "not" else "-", *self.inner(node[1])]
        return [*self.inner(node[1]), word, *self.inner(node[2])]


ODD = [
    None, True, False, 0, 1, -1, 2 ** 59, 10 ** 39, "", "a", "if", "e", "yield", "len", "say", "x" * 21, "a b", "1a",
    "\n", chr(37), "\t", "~", "\x7f", b"a", [], {}, (), ("a",), ("nil",), ("break",), ("number", 1), ("do", ("nil",)),
    ("yield",), ("name", "a"), ("fun", (), ()), ("field", ("nil",), "a"), (("nil",),), (("break",),), frozenset(), int,
]


def places(thing, way=()):
    """The ways to all parts of nested tuples."""
    found = [way]
    if isinstance(thing, tuple):
        for at, part in enumerate(thing):
            found.extend(places(part, (*way, at)))
    return found


def put(thing, way, deed):
    """Nested tuples with another thing at one place."""
    if not way:
        return deed(thing)
    parts = list(thing)
    parts[way[0]] = put(parts[way[0]], way[1:], deed)
    return tuple(parts)


def changed(thing, seed):
    """Nested tuples that differ from others in one place, as a rule."""
    chance = random.Random(seed)
    odd = chance.choice(ODD)
    deeds = [
        lambda part: odd,
        lambda part: list(part) if isinstance(part, tuple) else [part],
        lambda part: part[:-1] if isinstance(part, (tuple, str)) else odd,
        lambda part: part[1:] if isinstance(part, (tuple, str)) else odd,
        lambda part: (*part, odd) if isinstance(part, tuple) else odd,
        lambda part: (odd, *part) if isinstance(part, tuple) else odd,
        lambda part: (part,),
        lambda part: bool(part) if isinstance(part, int) else odd,
    ]
    return put(thing, chance.choice(places(thing)), chance.choice(deeds))
