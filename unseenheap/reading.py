"""The tree of a program's text.

A word is taken only where a program can go on with it, so the first one that can't be taken is the first
with which no program goes on. Calls nest with brackets alone: all else that nests waits in lists.
"""

from unseenheap.cursor import Cursor
from unseenheap.errors import TooDeep
from unseenheap.forms import ASKED, PLACES
from unseenheap.lexing import words
from unseenheap.trees import MOST_DEPTH, deepest

# What stands behind the key at the head of a statement; E is an expression, ELSE a block that may be lacking.
STATEMENT_FORMS = {
    "var": ("NAME", "=", "E", ";"),
    "if": ("E", "BLOCK", "ELSE"),
    "while": ("E", "BLOCK"),
    "break": (";",),
    "continue": (";",),
    "return": ("E", ";"),
    "throw": ("E", ";"),
    "try": ("BLOCK", "catch", "NAME", "BLOCK"),
    "say": ("E", ";"),
}
ALONE = ("true", "false", "nil", "this")
VALUED = {"NAME": "name", "NUMBER": "number", "TEXT": "text"}
# How much the words bind that stand between two expressions.
LEVELS = {
    "or": 1, "and": 2, "==": 4, "!=": 4, "<": 4, "<=": 4, ">": 4, ">=": 4,
    "+": 5, "-": 5, "*": 6, "/": 6, "mod": 6,
}
NOT_LEVEL = 3
COMPARING_LEVEL = 4
MINUS_LEVEL = 7


def read(text):
    """The tree of the program that a text is."""
    found = words(text)
    source = Cursor(found, text.count("\n") + 1)
    parts = []
    while source.kind() != "END":
        parts.append(item(source))
    program = tuple(parts)
    if deepest(program) > MOST_DEPTH:
        raise TooDeep()
    return program


def item(source):
    """A class, a function or a statement at the top."""
    if source.kind() == "class":
        return class_item(source)
    if source.kind() == "fun" and source.kind_behind() == "NAME":
        source.take()
        return ("function", source.expect("NAME"), params(source), block(source))
    return statement(source)


def class_item(source):
    """A class; behind its first method no field may stand."""
    source.expect("class")
    name = source.expect("NAME")
    elder = None
    if source.kind() == "of":
        source.take()
        elder = source.expect("NAME")
    source.expect("{")
    fields = []
    while source.kind() == "NAME" and source.kind_behind() == ";":
        fields.append(source.take())
        source.expect(";")
    methods = []
    while source.kind() == "NAME":
        methods.append((source.take(), params(source), block(source)))
    source.expect("}")
    return ("class", name, elder, tuple(fields), tuple(methods))


def params(source):
    """The names of a function's parameters, in parentheses."""
    source.expect("(")
    return listed(source, name_of_param, ")")


def name_of_param(source):
    """One parameter's name."""
    return source.expect("NAME")


def arguments(source):
    """The expressions that a call passes, in parentheses."""
    source.expect("(")
    return listed(source, expression, ")")


def listed(source, reader, closing):
    """What stands, with commas between, ahead of a closing bracket, which is left behind, too."""
    found = []
    if source.kind() != closing:
        found.append(reader(source))
        while source.kind() == ",":
            source.take()
            found.append(reader(source))
    source.expect(closing)
    return tuple(found)


def block(source):
    """The statements of a block."""
    source.expect("{")
    found = []
    while source.kind() != "}":
        found.append(statement(source))
    source.take()
    return tuple(found)


def statement(source):
    """A statement; a function with a name is none."""
    kind = source.kind()
    if kind not in STATEMENT_FORMS:
        return do_or_set(source)
    source.take()
    found = [kind]
    for wanted in STATEMENT_FORMS[kind]:
        if wanted == "E":
            found.append(expression(source))
        elif wanted == "BLOCK":
            found.append(block(source))
        elif wanted == "ELSE":
            found.append(else_block(source))
        elif wanted == "NAME":
            found.append(source.expect("NAME"))
        else:
            source.expect(wanted)
    return tuple(found)


def else_block(source):
    """The block behind else, without statements where no else stands."""
    if source.kind() != "else":
        return ()
    source.take()
    return block(source)


def do_or_set(source):
    """A statement that begins with an expression."""
    value = expression(source)
    found = ("do", value)
    if source.kind() == "=" and value[0] in PLACES:
        source.take()
        found = ("set", value, expression(source))
    source.expect(";")
    return found


def expression(source):
    """An expression; words that want one more on their right wait until what binds more is bound."""
    waiting = []
    values = []
    while True:
        take_ahead(source, waiting)
        values.append(behind(source, first(source)))
        level = LEVELS.get(source.kind(), 0)
        if level == COMPARING_LEVEL and COMPARING_LEVEL in [waits for waits, _ in waiting]:
            source.refuse()
        bind(waiting, values, level)
        if level == 0:
            return values[0]
        waiting.append((level, source.take()))


def take_ahead(source, waiting):
    """Lay the words that stand ahead of an expression on those that wait."""
    while source.kind() == "not" or source.kind() == "-":
        if source.kind() == "-":
            waiting.append((MINUS_LEVEL, "minus"))
        elif waiting and waiting[-1][0] > NOT_LEVEL:
            source.refuse()
        else:
            waiting.append((NOT_LEVEL, "not"))
        source.take()


def bind(waiting, values, level):
    """Bind the words that wait and bind no less than a level, the last one first."""
    while waiting and waiting[-1][0] >= level:
        _, word = waiting.pop()
        last = values.pop()
        if word == "not" or word == "minus":
            values.append((word, last))
        else:
            values.append((word, values.pop(), last))


def behind(source, value):
    """An expression with the calls, messages, fields and items that stand behind it."""
    while source.kind() in ("(", ".", "["):
        if source.kind() == "(":
            value = ("call", value, arguments(source))
        elif source.kind() == ".":
            value = named_behind(source, value)
        else:
            source.take()
            value = ("item", value, expression(source))
            source.expect("]")
    return value


def named_behind(source, value):
    """A message to a value, or its field."""
    source.expect(".")
    name = source.expect("NAME")
    if source.kind() == "(":
        return ("send", value, name, arguments(source))
    return ("field", value, name)


def first(source):
    """What an expression begins with, behind the words ahead of it."""
    kind = source.kind()
    if kind in VALUED:
        return (VALUED[kind], source.take())
    if kind in ALONE:
        return (source.take(),)
    if kind == "(" or kind in ASKED:
        return in_parentheses(source)
    if kind == "[":
        source.take()
        return ("list", listed(source, expression, "]"))
    if kind == "fun":
        source.take()
        return ("fun", params(source), block(source))
    return called_by_key(source)


def in_parentheses(source):
    """An expression in parentheses, which leave no trace, or one that a key ahead of them asks of."""
    key = "" if source.kind() == "(" else source.take()
    source.expect("(")
    value = expression(source)
    source.expect(")")
    return ("ask", key, (value,)) if key else value


def called_by_key(source):
    """An expression that begins with super, new or yield; any other word is refused."""
    kind = source.kind()
    if kind == "super":
        source.take()
        source.expect(".")
        return ("up", source.expect("NAME"), arguments(source))
    if kind == "new":
        source.take()
        return ("new", source.expect("NAME"), arguments(source))
    source.expect("yield")
    source.expect("(")
    source.expect(")")
    return ("ask", "yield", ())
