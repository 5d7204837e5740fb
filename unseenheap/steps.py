"""The steps of a run: each does one task of the call under way, most of which lay others on what it has to do."""

from unseenheap.classes import fields_of, method_of
from unseenheap.operators import worked_out
from unseenheap.values import NIL, fault, flag, is_true


def step(run):
    """Do the next thing that is to be done; at most one tick is counted, and nothing is done behind it."""
    if not run.queue:
        run.free_least()
        return
    call = run.call_under_way()
    if call.work:
        task = call.work.pop()
        handler = STEPS[task[0]]
        handler(run, call, task)
    else:
        run.give(NIL)


def do_first(call, nodes, behind):
    """Lay nodes on what a call has to do, the first one to be done first, and ahead of what is behind them."""
    call.work.append(behind)
    call.work.extend(nodes[::-1])


def lay(run, call, value):
    """Lay a value that was worked out, or throw the fault that it tells."""
    if value[0] == "thrown":
        run.throw(fault(value[1]))
    else:
        call.pile.append(value)


def number_step(_run, call, task):
    """An integer."""
    call.pile.append(("int", task[1]))


def text_step(_run, call, task):
    """A text of the program: the thing made at the begin."""
    call.pile.append(("thing", task[1] + 1))


def key_step(_run, call, task):
    """The keys true, false and nil."""
    call.pile.append(NIL if task[0] == "nil" else flag(task[0] == "true"))


def name_step(run, call, task):
    """A variable that is read."""
    call.pile.append(run.value_at(call, task[1]))


def fun_step(run, call, task):
    """A new function, with the cells of the variables that it captures."""
    cells = []
    for where, at in run.placed.codes[task[1]].captured:
        cells.append(run.cell_at(call, ("cell" if where == 0 else "seen", at)))
    call.pile.append(run.things.make_thing("function", task[1], cells))


def list_step(_run, call, task):
    """A list."""
    do_first(call, task[1], ("then work out", "list", len(task[1])))


def between_step(_run, call, task):
    """A word between two expressions, or an item."""
    do_first(call, task[1:], ("then work out", task[0], 2))


def ahead_step(_run, call, task):
    """A word ahead of an expression."""
    do_first(call, task[1:], ("then work out", task[0], 1))


def work_out_step(run, call, task):
    """What a word makes of values that wait."""
    _, word, many = task
    lay(run, call, worked_out(run.things, word, call.take(many)))


def either_step(_run, call, task):
    """The words and, or: the second expression is done only if the first one's value is not what is given."""
    do_first(call, task[1:2], ("then either", task[0], task[2]))


def then_either(_run, call, task):
    """Behind the first expression of and, or."""
    _, word, other = task
    if is_true(call.pile[-1]) == (word == "and"):
        call.pile.pop()
        call.work.append(other)


def field_step(_run, call, task):
    """A field."""
    do_first(call, task[1:2], ("then field", task[2]))


def field_at(run, value, name):
    """The number of a field of an object, or the name of the fault that is due."""
    if run.things.sort_of(value) != "object":
        return "kind"
    names = fields_of(run.placed.classes, run.things.thing_of(value).head)
    return names.index(name) if name in names else "field"


def then_field(run, call, task):
    """Behind the object of which a field is read."""
    value = call.pile.pop()
    at = field_at(run, value, task[1])
    if isinstance(at, str):
        run.throw(fault(at))
    else:
        call.pile.append(run.things.thing_of(value).parts[at])


def ask_step(_run, call, task):
    """A key that asks."""
    _, key, args = task
    if key == "yield":
        call.work.extend([("nil",), ("tick",)])
    elif key == "join":
        do_first(call, args, ("then join",))
    elif key == "spawn":
        do_first(call, args, ("then spawn",))
    else:
        do_first(call, args, ("then work out", key, 1))


def tick_step(run, _call, _task):
    """A tick."""
    run.tick()


def then_spawn(run, call, _task):
    """Behind the function that a thread calls."""
    value = call.pile.pop()
    if run.things.sort_of(value) != "function":
        run.throw(fault("kind"))
    elif run.placed.codes[run.things.thing_of(value).head].many > 0:
        run.throw(fault("count"))
    else:
        call.pile.append(run.begin_thread(value))


def then_join(run, call, task):
    """Behind the thread that is waited for; done anew when this thread goes on."""
    value = call.pile[-1]
    result = run.threads[value[1]].result if value[0] == "thread" else ("threw", fault("kind"))
    if result is None:
        call.work.append(task)
        run.wait_for(value[1])
    elif result[0] == "gave":
        call.pile[-1] = result[1]
    else:
        run.throw(result[1])


def call_step(_run, call, task):
    """A call of a function."""
    _, head, args = task
    do_first(call, (head, *args), ("then call", len(args)))


def then_call(run, call, task):
    """Behind the function and the arguments of a call."""
    values = call.take(task[1] + 1)
    if run.things.sort_of(values[0]) == "function":
        run.begin_call(values[0], run.things.thing_of(values[0]).head, values[1:])
    else:
        run.throw(fault("kind"))


def send_step(_run, call, task):
    """A message to an object."""
    _, head, name, args = task
    do_first(call, (head, *args), ("then send", name, len(args)))


def then_send(run, call, task):
    """Behind the object and the arguments of a message."""
    _, name, many = task
    values = call.take(many + 1)
    if run.things.sort_of(values[0]) == "object":
        answer(run, run.things.thing_of(values[0]).head, name, values)
    else:
        run.throw(fault("kind"))


def answer(run, number, name, values):
    """Begin the call of the method by which a class answers, if it has one."""
    code = method_of(run.placed.classes, number, name)
    if code is None:
        run.throw(fault("method"))
    else:
        run.begin_call(NIL, code, values)


def up_step(_run, call, task):
    """A message to the elder."""
    _, place, number, name, args = task
    do_first(call, args, ("then up", place, number, name, len(args)))


def then_up(run, call, task):
    """Behind the arguments of a message to the elder."""
    _, place, number, name, many = task
    values = [run.value_at(call, place), *call.take(many)]
    answer(run, run.placed.classes[number][1], name, values)


def new_step(run, call, task):
    """A new object, which waits for the arguments."""
    _, number, args = task
    parts = [NIL for _ in fields_of(run.placed.classes, number)]
    call.pile.append(run.things.make_thing("object", number, parts))
    do_first(call, args, ("then new", number, len(args)))


def then_new(run, call, task):
    """Behind the arguments of a new object, which waits on while its init is called."""
    _, number, many = task
    args = call.take(many)
    code = method_of(run.placed.classes, number, "init")
    if code is not None:
        call.work.append(("then do",))
        run.begin_call(NIL, code, [call.pile[-1], *args])
    elif args:
        run.throw(fault("count"))


def var_step(_run, call, task):
    """A var."""
    do_first(call, task[2:], ("then make", task[1]))


def then_make(run, call, task):
    """Behind the expression of a var."""
    run.make_variable(call, task[1], call.pile.pop())


def then_cells(run, call, _task):
    """Behind a call's tick: cells of parameters."""
    for at in range(call.code.many):
        if call.code.cells[at]:
            run.make_variable(call, ("cell", at), call.slots[at])


def one_step(_run, call, task):
    """A statement that does something with the value of an expression."""
    do_first(call, task[1:], ("then " + task[0],))


def then_do(_run, call, _task):
    """Let go of a value."""
    call.pile.pop()


def set_step(_run, call, task):
    """What is set: a name, a field or an item."""
    _, place, value = task
    if place[0] == "name":
        do_first(call, (value,), ("then set", place[1]))
    elif place[0] == "field":
        do_first(call, (place[1], value), ("then put field", place[2]))
    else:
        do_first(call, (place[1], place[2], value), ("then put item",))


def then_set(run, call, task):
    """Behind the expression to which a name is set."""
    run.set_variable(call, task[1], call.pile.pop())


def then_put_field(run, call, task):
    """Behind the object and the value that its field gets."""
    one, value = call.take(2)
    at = field_at(run, one, task[1])
    if isinstance(at, str):
        run.throw(fault(at))
    else:
        run.things.thing_of(one).parts[at] = value


def then_put_item(run, call, _task):
    """Behind the list, the place and the value that stands there then."""
    one, at, value = call.take(3)
    if run.things.sort_of(one) != "list" or at[0] != "int":
        run.throw(fault("kind"))
    elif not 0 <= at[1] < len(run.things.thing_of(one).parts):
        run.throw(fault("index"))
    else:
        run.things.thing_of(one).parts[at[1]] = value


def if_step(_run, call, task):
    """A choice."""
    do_first(call, task[1:2], ("then if", task[2], task[3]))


def then_if(_run, call, task):
    """Behind the look of a choice."""
    block = task[1] if is_true(call.pile.pop()) else task[2]
    call.work.extend(block[::-1])


def while_step(_run, call, task):
    """A loop."""
    call.work.append(("then again", task[1], task[2]))


def then_again(_run, call, task):
    """Ahead of a look of a loop."""
    do_first(call, (("tick",), task[1]), ("then look", task[1], task[2]))


def then_look(_run, call, task):
    """Behind a look of a loop."""
    if is_true(call.pile.pop()):
        do_first(call, task[2], ("then again", task[1], task[2]))


def leave_step(_run, call, task):
    """Leave the innermost loop, or its round."""
    while call.work[-1][0] != "then again":
        call.work.pop()
    if task[0] == "break":
        call.work.pop()


def try_step(_run, call, task):
    """A block in which what is thrown is caught."""
    do_first(call, task[1], ("then catch", task[2], task[3]))


def then_catch(_run, _call, _task):
    """Behind a block in which nothing was thrown."""


def then_return(run, call, _task):
    """Behind what a call gives."""
    run.give(call.pile.pop())


def then_throw(run, call, _task):
    """Behind what is thrown."""
    run.throw(call.pile.pop())


def then_say(run, call, _task):
    """Behind what is said."""
    run.said.append(run.line_of(call.pile.pop()))


STEPS = {
    "number": number_step, "text": text_step, "true": key_step, "false": key_step, "nil": key_step,
    "this": name_step, "name": name_step, "fun": fun_step, "list": list_step,
    "==": between_step, "!=": between_step, "<": between_step, "<=": between_step, ">": between_step,
    ">=": between_step, "+": between_step, "-": between_step, "*": between_step, "/": between_step,
    "mod": between_step, "item": between_step, "not": ahead_step, "minus": ahead_step, "then work out": work_out_step,
    "or": either_step, "and": either_step, "then either": then_either, "field": field_step, "then field": then_field,
    "ask": ask_step, "tick": tick_step, "then spawn": then_spawn, "then join": then_join,
    "call": call_step, "then call": then_call, "send": send_step, "then send": then_send,
    "up": up_step, "then up": then_up, "new": new_step, "then new": then_new,
    "do": one_step, "return": one_step, "throw": one_step, "say": one_step,
    "then do": then_do, "then return": then_return, "then throw": then_throw, "then say": then_say,
    "var": var_step, "then make": then_make, "then cells": then_cells,
    "set": set_step, "then set": then_set, "then put field": then_put_field, "then put item": then_put_item,
    "if": if_step, "then if": then_if, "while": while_step, "then again": then_again, "then look": then_look,
    "break": leave_step, "continue": leave_step, "try": try_step, "then catch": then_catch,
}
