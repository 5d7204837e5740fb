"""The text of a program's tree."""

from unseenheap.errors import NoProgram
from unseenheap.reading import COMPARING_LEVEL, LEVELS, MINUS_LEVEL, NOT_LEVEL
from unseenheap.trees import is_program

INDENT = "  "
BEHIND_LEVEL = 8
FIRST_LEVEL = 9
# How much the expressions bind that are no words between two others; all that are lacking bind most.
OTHER_LEVELS = {
    "not": NOT_LEVEL, "minus": MINUS_LEVEL,
    "call": BEHIND_LEVEL, "send": BEHIND_LEVEL, "field": BEHIND_LEVEL, "item": BEHIND_LEVEL,
}


def show(program):
    """The text of a program."""
    if not is_program(program):
        raise NoProgram()
    return "".join([item_lines(item) for item in program])


def item_lines(item):
    """The lines of a class, a function or a statement at the top."""
    if item[0] == "class":
        return class_lines(item)
    if item[0] == "function":
        return "fun " + item[1] + code_text(item[2], item[3], "") + "\n"
    return statement_line(item, "")


def class_lines(item):
    """The lines of a class."""
    _, name, elder, fields, methods = item
    head = "class " + name if elder is None else "class " + name + " of " + elder
    lines = [INDENT + field + ";\n" for field in fields]
    for method, params, block in methods:
        lines.append(INDENT + method + code_text(params, block, INDENT) + "\n")
    return head + " {\n" + "".join(lines) + "}\n"


def code_text(params, block, ahead):
    """The parameters and the block of a function; ahead is what stands ahead in the line of its first bracket."""
    return "(" + ", ".join(params) + ") " + block_text(block, ahead)


def block_text(block, ahead):
    """The lines of a block, without what stands ahead of the first and behind the last bracket."""
    lines = [statement_line(statement, ahead + INDENT) for statement in block]
    return "{\n" + "".join(lines) + ahead + "}"


def statement_line(node, ahead):
    """A statement with the blanks ahead of it and the end of its line."""
    return ahead + statement_text(node, ahead) + "\n"


def statement_text(node, ahead):
    """A statement's text from its first to its last word."""
    word = node[0]
    if word == "if":
        head = "if " + e_text(node[1], ahead) + " " + block_text(node[2], ahead)
        return head + (" else " + block_text(node[3], ahead) if node[3] else "")
    if word == "while":
        return "while " + e_text(node[1], ahead) + " " + block_text(node[2], ahead)
    if word == "try":
        return "try " + block_text(node[1], ahead) + " catch " + node[2] + " " + block_text(node[3], ahead)
    return plain_text(node, ahead) + ";"


def plain_text(node, ahead):
    """A statement without a block, but for the sign that ends it."""
    word = node[0]
    if word == "var":
        return "var " + node[1] + " = " + e_text(node[2], ahead)
    if word == "set":
        return e_text(node[1], ahead) + " = " + e_text(node[2], ahead)
    if word == "do":
        return e_text(node[1], ahead)
    if len(node) == 1:
        return word
    return word + " " + e_text(node[1], ahead)


def e_text(node, ahead, wanted=0):
    """An expression, in parentheses if it binds less than its place wants."""
    text = bare_text(node, ahead)
    return "(" + text + ")" if level_of(node) < wanted else text


def level_of(node):
    """How much an expression binds."""
    if node[0] in LEVELS:
        return LEVELS[node[0]]
    return OTHER_LEVELS.get(node[0], FIRST_LEVEL)


def bare_text(node, ahead):
    """An expression without parentheses around it."""
    word = node[0]
    if word in LEVELS:
        return between_text(node, ahead)
    if word in OTHER_LEVELS:
        return inner_text(node, ahead)
    if word == "fun":
        return "fun" + code_text(node[1], node[2], ahead)
    if word == "list":
        return "[" + args_text(node[1], ahead) + "]"
    if word == "text":
        return '"' + node[1].replace('"', '""') + '"'
    if word == "number" or word == "name":
        return str(node[1])
    return keyed_text(node, ahead)


def between_text(node, ahead):
    """A word between two expressions."""
    level = LEVELS[node[0]]
    left = level + 1 if level == COMPARING_LEVEL else level
    return e_text(node[1], ahead, left) + " " + node[0] + " " + e_text(node[2], ahead, level + 1)


def inner_text(node, ahead):
    """A word ahead of an expression, or what stands behind one."""
    word = node[0]
    if word == "not":
        return "not " + e_text(node[1], ahead, NOT_LEVEL)
    if word == "minus":
        return "-" + e_text(node[1], ahead, MINUS_LEVEL)
    # The head of a call that is a field would be read as a message.
    is_field_called = word == "call" and node[1][0] == "field"
    head = e_text(node[1], ahead, FIRST_LEVEL if is_field_called else BEHIND_LEVEL)
    if word == "item":
        return head + "[" + e_text(node[2], ahead) + "]"
    if word == "call":
        return head + "(" + args_text(node[2], ahead) + ")"
    if word == "send":
        return head + "." + node[2] + "(" + args_text(node[3], ahead) + ")"
    return head + "." + node[2]


def keyed_text(node, ahead):
    """An expression that begins with a key."""
    word = node[0]
    if word == "up":
        return "super." + node[1] + "(" + args_text(node[2], ahead) + ")"
    if word == "new":
        return "new " + node[1] + "(" + args_text(node[2], ahead) + ")"
    if word == "ask":
        return node[1] + "(" + args_text(node[2], ahead) + ")"
    return word


def args_text(args, ahead):
    """Expressions with commas between."""
    return ", ".join([e_text(arg, ahead) for arg in args])
