"""The plain meaning told a second time, apart from the package: expressions are worked out by calls of Python's own.

Each thread is a generator that yields at its ticks and where it waits. Variables are looked up while the tree is run,
so no slots, captures or places of the package are used.
"""

import sys
from contextlib import contextmanager


@contextmanager
def deeper():
    """Calls of generators nest as deeply as those of the program."""
    saved = sys.getrecursionlimit()
    sys.setrecursionlimit(30000)
    try:
        yield
    finally:
        sys.setrecursionlimit(saved)


class Thrown(Exception):
    def __init__(self, value):
        self.value = value


class Leave(Exception):
    def __init__(self, word):
        self.word = word


class Given(Exception):
    def __init__(self, value):
        self.value = value


class Fault:
    def __init__(self, name):
        self.name = name


class ThreadValue:
    def __init__(self, number):
        self.number = number


class Made:
    """A thing: sort, number, head (class or code), parts."""

    def __init__(self, sort, number, head, parts):
        self.sort, self.number, self.head, self.parts = sort, number, head, parts


FAULTS = {name: Fault(name) for name in "kind index zero overflow field method count deep stuck".split()}


def throw(name):
    raise Thrown(FAULTS[name])


class Var:
    """A variable of one code."""

    def __init__(self, name, code):
        self.name, self.celled = name, False
        code.made.append(self)


class CodeMade:
    """A code: its parameters, its block with variables in the stead of names, what it captures."""

    def __init__(self, name, around):
        self.name, self.around, self.params, self.captured, self.block = name, around, [], [], ()
        self.made = []


class Resolver:
    """Exchange names for variables, by scopes that are lists of dicts."""

    def __init__(self, program):
        self.classes = {item[1]: item for item in program if item[0] == "class"}
        self.texts = []
        self.methods = {}
        self.functions = {}
        self.top = CodeMade("top", None)
        self.codes = [self.top]
        block = []
        for item in program:
            if item[0] == "class":
                for name, params, inner in item[4]:
                    self.methods[item[1], name] = self.code(f"{item[1]}.{name}", ("this", *params), inner, None, [], item)
            elif item[0] == "function":
                self.functions[item[1]] = self.code(item[1], item[2], item[3], None, [], None)
            elif item[0] == "var":
                block.append(("topvar", item[1], self.e(item[2], self.top, [], None)))
            else:
                block.append(self.statement(item, self.top, [], None))
        self.top.block = tuple(block)

    def code(self, name, params, block, around, scopes, klass):
        made = CodeMade(name, around)
        self.codes.append(made)
        made.params = [Var(param, made) for param in params]
        scope = {var.name: (var, made) for var in made.params}
        made.block = self.statements(block, made, [*scopes, scope], klass)
        return made

    def statements(self, block, code, scopes, klass):
        return tuple([self.statement(node, code, scopes, klass) for node in block])

    def block(self, block, code, scopes, klass):
        return self.statements(block, code, [*scopes, {}], klass)

    def statement(self, node, code, scopes, klass):
        word = node[0]
        if word == "var":
            var = Var(node[1], code)
            value = self.e(node[2], code, scopes, klass)
            scopes[-1][node[1]] = (var, code)
            return ("var", var, value)
        if word == "if":
            value = self.e(node[1], code, scopes, klass)
            return ("if", value, self.block(node[2], code, scopes, klass), self.block(node[3], code, scopes, klass))
        if word == "while":
            return ("while", self.e(node[1], code, scopes, klass), self.block(node[2], code, scopes, klass))
        if word == "try":
            block = self.block(node[1], code, scopes, klass)
            var = Var(node[2], code)
            return ("try", block, var, self.statements(node[3], code, [*scopes, {node[2]: (var, code)}], klass))
        return (word, *[self.e(part, code, scopes, klass) for part in node[1:]])

    def name(self, name, code, scopes):
        for scope in scopes[::-1]:
            if name in scope:
                var, maker = scope[name]
                within = code
                if maker is not code:
                    var.celled = True
                while within is not maker:
                    if var not in within.captured:
                        within.captured.append(var)
                    within = within.around
                return ("local", var)
        return ("topname", name)

    def e(self, node, code, scopes, klass):
        word = node[0]
        if word == "name":
            return self.name(node[1], code, scopes)
        if word == "this":
            return self.name("this", code, scopes)
        if word == "text":
            if node[1] not in self.texts:
                self.texts.append(node[1])
            return node
        if word == "fun":
            return ("fun", self.code("fun", node[1], node[2], code, scopes, klass))
        if word == "up":
            this = self.name("this", code, scopes)
            return ("up", this, klass[2], node[1], tuple([self.e(arg, code, scopes, klass) for arg in node[2]]))
        parts = []
        for part in node[1:]:
            if isinstance(part, tuple) and part and isinstance(part[0], str):
                parts.append(self.e(part, code, scopes, klass))
            elif isinstance(part, tuple):
                parts.append(tuple([self.e(arg, code, scopes, klass) for arg in part]))
            else:
                parts.append(part)
        return (word, *parts)


def names_told(program):
    """What names tells of a program without faults, told a second time."""
    found = []
    for code in Resolver(program).codes:
        captured = []
        for var in code.captured:
            own = var in code.around.made
            captured.append((var.name, (0, code.around.made.index(var)) if own else (1, code.around.captured.index(var))))
        found.append((code.name, len(code.params), tuple((var.name, var.celled) for var in code.made), tuple(captured)))
    return tuple(found)


class Frame:
    """A call: what its slots have, the cells of captured variables, and values that wait."""

    def __init__(self, function):
        self.function, self.slots, self.cells, self.waits = function, {}, {}, []


class Strand:
    """A thread."""

    def __init__(self, first):
        self.frames, self.state, self.first, self.going = [first], ("ready",), first, None


class Model:
    """A run of a program; it stops at ticks as Plain does."""

    def __init__(self, program, moments):
        self.known = Resolver(program)
        self.moments = list(moments)
        self.count, self.out, self.things, self.tops = 0, [], [], {}
        self.texts = {}
        for text in self.known.texts:
            self.texts[text] = self.make("text", None, text)
        for item in program:
            if item[0] == "function":
                self.tops[item[1]] = self.make("function", self.known.functions[item[1]], [])
            elif item[0] == "var":
                self.tops[item[1]] = None
        self.strands, self.queue = [], []
        self.begin(Frame(None), self.known.top)

    def make(self, sort, head, parts):
        self.things.append(Made(sort, len(self.things) + 1, head, parts))
        return self.things[-1]

    def begin(self, frame, code):
        strand = Strand(frame)
        self.strands.append(strand)
        strand.going = self.call_whole(strand, frame, code)
        self.queue.append(len(self.strands) - 1)
        return len(self.strands) - 1

    def run(self, most):
        with deeper():
            while self.count < most and not self.is_over():
                self.go_on()

    def is_over(self):
        return not self.queue and not any(strand.state[0] == "waits" for strand in self.strands)

    def go_on(self):
        stuck = not self.queue
        if stuck:
            self.queue.append(min(at for at, strand in enumerate(self.strands) if strand.state[0] == "waits"))
        number = self.queue[0]
        strand = self.strands[number]
        strand.state = ("ready",)
        try:
            told = strand.going.throw(Thrown(FAULTS["stuck"])) if stuck else next(strand.going)
        except StopIteration as end:
            self.end(number, ("gave", end.value))
            return
        except Thrown as error:
            self.end(number, ("threw", error.value))
            return
        if told == "tick":
            self.tick()
        else:
            self.queue.pop(0)
            strand.state = ("waits", told)

    def end(self, number, state):
        self.queue.pop(0)
        strand = self.strands[number]
        strand.state, strand.frames = state, []
        for at, other in enumerate(self.strands):
            if other.state == ("waits", number):
                other.state = ("ready",)
                self.queue.append(at)

    def tick(self):
        self.count += 1
        while self.moments and self.moments[0][0] == self.count:
            _, deed = self.moments.pop(0)
            if deed == "switch":
                self.queue = self.queue[1:] + self.queue[:1]
            elif deed == "sweep":
                self.sweep()

    def sweep(self):
        seen = set()
        waiting = [*self.texts.values(), *self.tops.values()]
        for strand in self.strands:
            waiting.extend(strand.state[1:] if strand.state[0] in ("gave", "threw") else [])
            for frame in strand.frames:
                waiting.extend([frame.function, *frame.slots.values(), *frame.waits])
        while waiting:
            thing = waiting.pop()
            if isinstance(thing, Made) and thing.number not in seen:
                seen.add(thing.number)
                if thing.sort not in ("text", "tie"):
                    waiting.extend(thing.parts)
        for number in seen:
            thing = self.things[number - 1]
            if thing.sort == "tie" and isinstance(thing.parts[0], Made) and thing.parts[0].number not in seen:
                thing.parts[0] = None

    # calls

    def call_whole(self, strand, frame, code, args=()):
        for var, value in zip(code.params, args):
            frame.slots[var] = value
        if frame.function is not None:
            frame.cells = dict(zip(frame.function.head.captured, frame.function.parts))
        yield "tick"
        for var in code.params:
            if var.celled:
                self.put_new(frame, var, frame.slots[var])
        try:
            yield from self.block(strand, frame, code.block)
        except Given as given:
            return given.value
        return None

    def call(self, strand, frame, function, code, args):
        if len(code.params) != len(args):
            throw("count")
        if len(strand.frames) == 200:
            throw("deep")
        inner = Frame(function)
        strand.frames.append(inner)
        try:
            return (yield from self.call_whole(strand, inner, code, args))
        finally:
            if strand.frames and strand.frames[-1] is inner:
                strand.frames.pop()

    def put_new(self, frame, var, value):
        frame.slots[var] = self.make("cell", None, [value]) if var.celled else value

    def cell(self, frame, var):
        return frame.cells[var] if var in frame.cells else frame.slots[var]

    def get(self, frame, var):
        return self.cell(frame, var).parts[0] if var.celled else frame.slots[var]

    # statements

    def block(self, strand, frame, block):
        for node in block:
            yield from self.statement(strand, frame, node)

    def statement(self, strand, frame, node):
        word = node[0]
        if word == "topvar":
            self.tops[node[1]] = yield from self.e(strand, frame, node[2])
        elif word == "var":
            self.put_new(frame, node[1], (yield from self.e(strand, frame, node[2])))
        elif word == "do":
            yield from self.e(strand, frame, node[1])
        elif word == "set":
            yield from self.set(strand, frame, node[1], node[2])
        elif word == "if":
            value = yield from self.e(strand, frame, node[1])
            yield from self.block(strand, frame, node[2] if true(value) else node[3])
        elif word == "while":
            yield from self.loop(strand, frame, node)
        elif word in ("break", "continue"):
            raise Leave(word)
        elif word == "return":
            raise Given((yield from self.e(strand, frame, node[1])))
        elif word == "throw":
            raise Thrown((yield from self.e(strand, frame, node[1])))
        elif word == "say":
            self.out.append(self.line((yield from self.e(strand, frame, node[1]))))
        else:
            yield from self.guarded(strand, frame, node)

    def guarded(self, strand, frame, node):
        try:
            yield from self.block(strand, frame, node[1])
            return
        except Thrown as error:
            value = error.value
        frame.waits.clear()
        self.put_new(frame, node[2], value)
        yield from self.block(strand, frame, node[3])

    def loop(self, strand, frame, node):
        while True:
            yield "tick"
            if not true((yield from self.e(strand, frame, node[1]))):
                return
            try:
                yield from self.block(strand, frame, node[2])
            except Leave as leave:
                if leave.word == "break":
                    return

    def set(self, strand, frame, place, node):
        if place[0] == "local":
            value = yield from self.e(strand, frame, node)
            if place[1].celled:
                self.cell(frame, place[1]).parts[0] = value
            else:
                frame.slots[place[1]] = value
        elif place[0] == "topname":
            self.tops[place[1]] = yield from self.e(strand, frame, node)
        elif place[0] == "item":
            one, at, value = yield from self.all(strand, frame, [place[1], place[2], node])
            if sort(one) != "list" or not whole(at):
                throw("kind")
            if not 0 <= at < len(one.parts):
                throw("index")
            one.parts[at] = value
        else:
            one, value = yield from self.all(strand, frame, [place[1], node])
            at = self.field(one, place[2])
            one.parts[at] = value

    # expressions

    def all(self, strand, frame, nodes):
        """The values of nodes; each waits till all are there."""
        begin = len(frame.waits)
        for node in nodes:
            frame.waits.append((yield from self.e(strand, frame, node)))
        found = frame.waits[begin:]
        del frame.waits[begin:]
        return found

    def e(self, strand, frame, node):
        word = node[0]
        if word == "number":
            return node[1]
        if word == "text":
            return self.texts[node[1]]
        if word in ("true", "false", "nil"):
            return {"true": True, "false": False, "nil": None}[word]
        if word == "local":
            return self.get(frame, node[1])
        if word == "topname":
            return self.tops[node[1]]
        if word == "fun":
            return self.make("function", node[1], [self.cell(frame, var) for var in node[1].captured])
        if word in ("and", "or"):
            value = yield from self.e(strand, frame, node[1])
            return value if true(value) == (word == "or") else (yield from self.e(strand, frame, node[2]))
        if word == "list":
            return self.make("list", None, (yield from self.all(strand, frame, node[1])))
        if word in ("call", "send", "up", "new"):
            return (yield from getattr(self, "e_" + word)(strand, frame, node))
        if word == "ask":
            return (yield from self.ask(strand, frame, node[1], node[2]))
        values = yield from self.all(strand, frame, [part for part in node[1:] if isinstance(part, tuple)])
        if word == "field":
            at = self.field(values[0], node[2])
            return values[0].parts[at]
        return self.worked(word, *values)

    def e_call(self, strand, frame, node):
        function, *args = yield from self.all(strand, frame, [node[1], *node[2]])
        if sort(function) != "function":
            throw("kind")
        return (yield from self.call(strand, frame, function, function.head, args))

    def e_send(self, strand, frame, node):
        values = yield from self.all(strand, frame, [node[1], *node[3]])
        if sort(values[0]) != "object":
            throw("kind")
        return (yield from self.answer(strand, frame, values[0].head, node[2], values))

    def e_up(self, strand, frame, node):
        args = yield from self.all(strand, frame, node[4])
        return (yield from self.answer(strand, frame, node[2], node[3], [self.get(frame, node[1][1]), *args]))

    def e_new(self, strand, frame, node):
        made = self.make("object", node[1], [None for _ in self.fields(node[1])])
        frame.waits.append(made)
        args = yield from self.all(strand, frame, node[2])
        if self.method(node[1], "init") is not None:
            yield from self.answer(strand, frame, node[1], "init", [made, *args])
        elif args:
            throw("count")
        return frame.waits.pop()

    def answer(self, strand, frame, name, method, values):
        code = self.method(name, method)
        if code is None:
            throw("method")
        return (yield from self.call(strand, frame, None, code, values))

    def method(self, name, method):
        while name is not None:
            if (name, method) in self.known.methods:
                return self.known.methods[name, method]
            name = self.known.classes[name][2]
        return None

    def fields(self, name):
        _, _, elder, fields, _ = self.known.classes[name]
        return [*(self.fields(elder) if elder is not None else []), *fields]

    def field(self, one, name):
        if sort(one) != "object":
            throw("kind")
        if name not in self.fields(one.head):
            throw("field")
        return self.fields(one.head).index(name)

    def ask(self, strand, frame, key, args):
        if key == "yield":
            yield "tick"
            return None
        value = yield from self.e(strand, frame, args[0])
        if key == "len":
            if sort(value) not in ("text", "list"):
                throw("kind")
            return len(value.parts)
        if key in ("weak", "number"):
            if not isinstance(value, Made):
                throw("kind")
            return value.number if key == "number" else self.make("tie", None, [value])
        if key == "worth":
            if sort(value) != "tie":
                throw("kind")
            return value.parts[0]
        if key == "spawn":
            if sort(value) != "function":
                throw("kind")
            if value.head.params:
                throw("count")
            return ThreadValue(self.begin(Frame(value), value.head))
        if not isinstance(value, ThreadValue):
            throw("kind")
        while self.strands[value.number].state[0] not in ("gave", "threw"):
            yield value.number
        word, found = self.strands[value.number].state
        if word == "threw":
            raise Thrown(found)
        return found

    def worked(self, word, one, other=None):
        if word == "not":
            return not true(one)
        if word == "minus":
            if not whole(one):
                throw("kind")
            return bounded(-one)
        if word in ("==", "!="):
            return same(one, other) == (word == "==")
        if word == "item":
            if sort(one) not in ("text", "list") or not whole(other):
                throw("kind")
            if other < 0 or other >= len(one.parts):
                throw("index")
            return one.parts[other] if one.sort == "list" else self.make("text", None, one.parts[other])
        if word == "+" and sort(one) == sort(other) and sort(one) in ("text", "list"):
            if len(one.parts) + len(other.parts) > 60000:
                throw("overflow")
            return self.make(one.sort, None, one.parts + other.parts)
        if word in ("<", "<=", ">", ">="):
            if sort(one) == sort(other) == "text":
                one, other = one.parts, other.parts
            elif not whole(one) or not whole(other):
                throw("kind")
            return {"<": one < other, "<=": one <= other, ">": one > other, ">=": one >= other}[word]
        if not whole(one) or not whole(other):
            throw("kind")
        if word in ("/", "mod") and other == 0:
            throw("zero")
        return bounded({"+": lambda: one + other, "-": lambda: one - other, "*": lambda: one * other,
                        "/": lambda: one // other, "mod": lambda: one % other}[word]())

    def line(self, value):
        if isinstance(value, bool):
            return str(value).lower()
        if value is None:
            return "nil"
        if isinstance(value, int):
            return str(value)
        if isinstance(value, Fault):
            return f"fault {value.name}"
        if isinstance(value, ThreadValue):
            return f"thread {value.number}"
        return {
            "text": lambda: value.parts, "list": lambda: f"list {len(value.parts)}", "tie": lambda: "tie",
            "object": lambda: f"object {value.head}", "function": lambda: f"function {value.head.name}",
        }[value.sort]()

    def told(self):
        """What Plain tells: ticks, over, lines, ends, made."""
        ends = [(s.state[0], self.line(s.state[1])) if s.state[0] in ("gave", "threw") else None for s in self.strands]
        return (self.count, self.is_over(), list(self.out), ends, len(self.things))


def whole(value):
    return isinstance(value, int) and not isinstance(value, bool)


def sort(value):
    return value.sort if isinstance(value, Made) else None


def true(value):
    return value is not None and value is not False


def bounded(number):
    if not -2 ** 59 <= number < 2 ** 59:
        throw("overflow")
    return number


def same(one, other):
    if sort(one) == "text" and sort(other) == "text":
        return one.parts == other.parts
    if isinstance(one, ThreadValue) and isinstance(other, ThreadValue):
        return one.number == other.number
    if isinstance(one, bool) or isinstance(other, bool):
        return one is other
    if isinstance(one, int) and isinstance(other, int):
        return one == other
    return one is other
