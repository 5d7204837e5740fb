"""What the tuples of a tree are made of: for each word at their head, the sorts of the parts behind it."""

ITEMS = {
    "class": ("name", "elder", "names", "methods"),
    "function": ("name", "names", "block"),
}
STATEMENTS = {
    "var": ("name", "e"),
    "do": ("e",),
    "set": ("place", "e"),
    "if": ("e", "block", "block"),
    "while": ("e", "block"),
    "break": (),
    "continue": (),
    "return": ("e",),
    "throw": ("e",),
    "try": ("block", "name", "block"),
    "say": ("e",),
}
EXPRESSIONS = {
    "number": ("number",),
    "text": ("text",),
    "true": (),
    "false": (),
    "nil": (),
    "this": (),
    "name": ("name",),
    "list": ("args",),
    "fun": ("names", "block"),
    "call": ("e", "args"),
    "send": ("e", "name", "args"),
    "up": ("name", "args"),
    "new": ("name", "args"),
    "field": ("e", "name"),
    "item": ("e", "e"),
    "or": ("e", "e"),
    "and": ("e", "e"),
    "==": ("e", "e"),
    "!=": ("e", "e"),
    "<": ("e", "e"),
    "<=": ("e", "e"),
    ">": ("e", "e"),
    ">=": ("e", "e"),
    "+": ("e", "e"),
    "-": ("e", "e"),
    "*": ("e", "e"),
    "/": ("e", "e"),
    "mod": ("e", "e"),
    "not": ("e",),
    "minus": ("e",),
    "ask": ("asked", "args"),
}
METHOD = ("name", "names", "block")
PLACES = ("name", "field", "item")
ASKED = ("len", "weak", "worth", "number", "spawn", "join")
# The parts that are tuples, as long as one likes, of parts of one sort.
ROWS = {
    "program": "item",
    "names": "name",
    "methods": "method",
    "block": "statement",
    "args": "e",
}


def shape_of(sort, word):
    """The sorts of what stands behind a word at the head of a tuple of this sort, or None."""
    if sort == "item" and word in ITEMS:
        return ITEMS[word]
    if sort == "item" or sort == "statement":
        return STATEMENTS.get(word)
    if sort == "place" and word not in PLACES:
        return None
    return EXPRESSIONS.get(word)


def shape_within(word):
    """The sorts of what stands behind a word at the head of a statement or an expression."""
    return STATEMENTS[word] if word in STATEMENTS else EXPRESSIONS[word]
