"""The compiler: units of programs.

Statements leave the pile as it was ahead of them, which is empty, as blocks stand in no expression of their own code.
Expressions lay one value.
"""

from unseenheap.classes import method_of
from unseenheap.names import scopes_of
from unseenheap.placing import Placed
from unseenheap.rowmaking import RowMaker
from unseenheap.units import Code, Unit

NIL_ROW = ("push", ("nil",))
LOADS = {"slot": "load", "cell": "peek", "seen": "see", "top": "name"}
STORES = {"slot": "store", "cell": "poke", "seen": "set", "top": "keep"}
# The words of the rows behind the expressions within: those of whatever a word of the tree makes of their values.
BEHIND = {
    "==": ("eq",), "!=": ("eq", "not"), "<": ("lt",), "<=": ("le",), ">": ("le", "not"), ">=": ("lt", "not"),
    "+": ("add",), "-": ("sub",), "*": ("mul",), "/": ("div",), "mod": ("rem",), "item": ("at",),
    "not": ("not",), "minus": ("neg",),
    "do": ("pop",), "return": ("give",), "throw": ("throw",), "say": ("say",),
}


def compiled(program):
    """The unit of a program."""
    placed = Placed(program, scopes_of(program))
    codes = [code_of(placed, number) for number in range(len(placed.codes))]
    return Unit(tuple(placed.texts), tuple(placed.tops), tuple(placed.classes), tuple(codes))


def code_of(placed, number):
    """The code of a number."""
    source = placed.codes[number]
    maker = RowMaker()
    maker.lay_row("tick")
    for at in range(source.many):
        if source.cells[at]:
            maker.lay_row("cell", at)
    make_block(placed, maker, source.block)
    maker.lay_row(*NIL_ROW)
    maker.lay_row("give")
    rows, handlers = tuple(maker.laid_rows), tuple(maker.found_handlers)
    return Code(source.name, source.many, len(source.cells), len(source.captured), rows, handlers)


def make_block(placed, maker, block):
    """The rows of statements."""
    for node in block:
        make(placed, maker, node)


def make_all(placed, maker, nodes):
    """The rows of expressions, one behind another."""
    for node in nodes:
        make(placed, maker, node)


def make(placed, maker, node):
    """The rows of a statement or an expression."""
    if node[0] in BEHIND:
        make_all(placed, maker, node[1:])
        for word in BEHIND[node[0]]:
            maker.lay_row(word)
    else:
        handler = MAKERS[node[0]]
        handler(placed, maker, node)


def make_number(_placed, maker, node):
    """An integer."""
    maker.lay_row("push", ("int", node[1]))


def make_text(_placed, maker, node):
    """A text of the unit."""
    maker.lay_row("text", node[1])


def make_key(_placed, maker, node):
    """The keys true, false and nil."""
    maker.lay_row("push", ("nil",) if node[0] == "nil" else ("bool", node[0] == "true"))


def make_name(_placed, maker, node):
    """A variable that is read."""
    word, at = node[1]
    maker.lay_row(LOADS[word], at)


def make_fun(placed, maker, node):
    """A new function."""
    maker.lay_row("fun", node[1], placed.codes[node[1]].captured)


def make_list(placed, maker, node):
    """A list."""
    make_all(placed, maker, node[1])
    maker.lay_row("list", len(node[1]))


def make_either(placed, maker, node):
    """The words and, or: the first value is on the pile twice while it is looked at."""
    word, one, other = node
    make(placed, maker, one)
    maker.lay_row("dup")
    if word == "or":
        maker.lay_row("not")
    end = maker.lay_row("skip", 0)
    maker.lay_row("pop")
    make(placed, maker, other)
    maker.land(end)


def make_field(placed, maker, node):
    """A field."""
    make(placed, maker, node[1])
    maker.lay_row("get", node[2])


def make_ask(placed, maker, node):
    """A key that asks."""
    _, key, args = node
    make_all(placed, maker, args)
    if key == "yield":
        maker.lay_row("tick")
        maker.lay_row(*NIL_ROW)
    else:
        maker.lay_row(key)


def make_call(placed, maker, node):
    """A call of a function."""
    _, head, args = node
    make_all(placed, maker, (head, *args))
    maker.lay_row("call", len(args))


def make_send(placed, maker, node):
    """A message to an object."""
    _, head, name, args = node
    make_all(placed, maker, (head, *args))
    maker.lay_row("send", name, len(args))


def make_up(placed, maker, node):
    """A message to the elder."""
    _, place, number, name, args = node
    make_all(placed, maker, (("this", place), *args))
    maker.lay_row("up", number, name, len(args))


def make_new(placed, maker, node):
    """A new object, which stays on the pile while its init is called."""
    _, number, args = node
    maker.lay_row("new", number)
    has_init = method_of(placed.classes, number, "init") is not None
    if has_init:
        maker.lay_row("dup")
    make_all(placed, maker, args)
    if has_init:
        maker.lay_row("send", "init", len(args))
        maker.lay_row("pop")
    elif args:
        maker.lay_row("push", ("fault", "count"))
        maker.lay_row("throw")


def make_var(placed, maker, node):
    """A var."""
    make(placed, maker, node[2])
    make_variable(maker, node[1])


def make_variable(maker, place):
    """A variable gets its first value; it is in a new cell, if in any."""
    word, at = place
    if word == "cell":
        maker.lay_row("store", at)
        maker.lay_row("cell", at)
    else:
        maker.lay_row(STORES[word], at)


def make_set(placed, maker, node):
    """What is set: a name, a field or an item."""
    _, place, value = node
    if place[0] == "name":
        word, at = place[1]
        make(placed, maker, value)
        maker.lay_row(STORES[word], at)
    elif place[0] == "field":
        make_all(placed, maker, (place[1], value))
        maker.lay_row("put", place[2])
    else:
        make_all(placed, maker, (place[1], place[2], value))
        maker.lay_row("putat")


def make_if(placed, maker, node):
    """A choice."""
    _, value, block, other = node
    make(placed, maker, value)
    choice = maker.lay_row("skip", 0)
    make_block(placed, maker, block)
    if other:
        end = maker.lay_row("jump", 0)
        maker.land(choice)
        make_block(placed, maker, other)
        maker.land(end)
    else:
        maker.land(choice)


def make_while(placed, maker, node):
    """A loop: each round goes back to the tick ahead of the look."""
    _, value, block = node
    maker.open_loop()
    maker.lay_row("tick")
    make(placed, maker, value)
    look = maker.lay_row("skip", 0)
    make_block(placed, maker, block)
    maker.leave_round()
    maker.land(look)
    maker.close_loop()


def make_leave(_placed, maker, node):
    """Leave the innermost loop, or its round."""
    if node[0] == "break":
        maker.leave_loop()
    else:
        maker.leave_round()


def make_try(placed, maker, node):
    """A block in which what is thrown is caught; handlers within stand ahead of its own."""
    _, block, place, other = node
    begin = maker.here()
    make_block(placed, maker, block)
    end = maker.here()
    # In an empty block nothing is thrown, and no handler stands around no rows.
    if begin < end:
        behind = maker.lay_row("jump", 0)
        maker.handle(begin, end)
        make_variable(maker, place)
        make_block(placed, maker, other)
        maker.land(behind)


MAKERS = {
    "number": make_number, "text": make_text, "true": make_key, "false": make_key, "nil": make_key,
    "this": make_name, "name": make_name, "fun": make_fun, "list": make_list, "or": make_either, "and": make_either,
    "field": make_field, "ask": make_ask, "call": make_call, "send": make_send, "up": make_up, "new": make_new,
    "var": make_var, "set": make_set, "if": make_if, "while": make_while,
    "break": make_leave, "continue": make_leave, "try": make_try,
}
