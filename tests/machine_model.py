"""A machine of units over things that never go, told in the tests alone, to run what the compiler makes.

Values are told values; a thing is a list (sort, parts): parts a text's string, or the values of its words.
"""

NIL = ("nil",)
FALSE = ("bool", False)


class Thrown(Exception):
    def __init__(self, value):
        self.value = value


def throw(name):
    raise Thrown(("fault", name))


class Frame:
    def __init__(self, number, code, function, args):
        self.number, self.code, self.function = number, code, function
        self.row, self.slots, self.pile = 0, [*args] + [NIL] * (code.slots - len(args)), []


class Thread:
    def __init__(self, frame):
        self.frames, self.state = [frame], ("ready",)


class MachineModel:
    def __init__(self, unit, moments):
        self.unit, self.moments = unit, list(moments)
        self.count, self.out, self.things, self.tops = 0, [], [], []
        for text in unit.texts:
            self.make("text", text)
        for _, code in unit.tops:
            self.tops.append(NIL if code is None else self.make("function", [("int", code)]))
        self.threads = [Thread(Frame(0, unit.codes[0], NIL, []))]
        self.queue = [0]
        # The greatest number of rows done by one call between two ticks, code by code.
        self.rows_between = [0] * len(unit.codes)
        self.watch = None

    def make(self, sort, parts):
        self.things.append([sort, parts])
        return ("thing", len(self.things))

    def sort(self, value):
        return self.things[value[1] - 1][0] if value[0] == "thing" else None

    def parts(self, value):
        return self.things[value[1] - 1][1]

    def is_over(self):
        return not self.queue and not any(thread.state[0] == "waits" for thread in self.threads)

    def run(self, most):
        while self.count < most and not self.is_over():
            self.step()

    def step(self):
        if not self.queue:
            least = min(at for at, thread in enumerate(self.threads) if thread.state[0] == "waits")
            self.queue.append(least)
            self.threads[least].state = ("ready",)
            self.unwind(("fault", "stuck"))
            return
        frame = self.threads[self.queue[0]].frames[-1]
        row = frame.code.rows[frame.row]
        if self.watch is not None:
            self.watch(frame)
        try:
            self.do(frame, row)
        except Thrown as thrown:
            self.unwind(thrown.value)

    def unwind(self, value):
        thread = self.threads[self.queue[0]]
        inner = True
        while thread.frames:
            frame = thread.frames[-1]
            at = frame.row if inner else frame.row - 1
            for begin, end, to, depth in frame.code.handlers:
                if begin <= at < end:
                    frame.pile[depth:] = [value]
                    frame.row = to
                    return
            thread.frames.pop()
            inner = False
        self.end(("threw", value))

    def end(self, state):
        number = self.queue.pop(0)
        self.threads[number].state = state
        for at, thread in enumerate(self.threads):
            if thread.state == ("waits", number):
                thread.state = ("ready",)
                self.queue.append(at)

    def tick(self):
        self.count += 1
        while self.moments and self.moments[0][0] == self.count:
            _, deed = self.moments.pop(0)
            if deed == "switch":
                self.queue.append(self.queue.pop(0))
            elif deed == "sweep":
                self.sweep()

    def roots(self):
        found = [("thing", at + 1) for at in range(len(self.unit.texts))] + list(self.tops)
        for thread in self.threads:
            found += thread.state[1:] if thread.state[0] in ("gave", "threw") else ()
            for frame in thread.frames:
                found += [*frame.slots, frame.function, *frame.pile]
        return found

    def sweep(self):
        waiting, seen = self.roots(), set()
        while waiting:
            value = waiting.pop()
            if value[0] == "thing" and value[1] not in seen:
                seen.add(value[1])
                if self.sort(value) not in ("text", "tie"):
                    waiting += self.parts(value)
        for number in seen:
            sort, parts = self.things[number - 1]
            if sort == "tie" and parts[0][0] == "thing" and parts[0][1] not in seen:
                parts[0] = NIL

    def take(self, frame, many):
        found = frame.pile[len(frame.pile) - many:]
        assert len(found) == many
        del frame.pile[len(frame.pile) - many:]
        return found

    def begin(self, number, function, args, params):
        if params != self.unit.codes[number].params:
            throw("count")
        frames = self.threads[self.queue[0]].frames
        if len(frames) == 200:
            throw("deep")
        frames[-1].row += 1
        frames.append(Frame(number, self.unit.codes[number], function, args))

    def method(self, c, name):
        while c is not None:
            for method, code in self.unit.classes[c][3]:
                if method == name:
                    return code
            c = self.unit.classes[c][1]
        return None

    def fields(self, c):
        _, elder, fields, _ = self.unit.classes[c]
        return ([] if elder is None else self.fields(elder)) + list(fields)

    def field(self, value, name):
        if self.sort(value) != "object":
            throw("kind")
        fields = self.fields(self.parts(value)[0][1])
        if name not in fields:
            throw("field")
        return fields.index(name) + 1

    def kept(self, frame, at):
        return self.parts(frame.function)[1 + at]

    def cell_at(self, frame, at):
        assert self.sort(frame.slots[at]) == "cell"
        return self.parts(frame.slots[at])

    def do(self, frame, row):
        word, *more = row
        lay = frame.pile.append
        if word in ("call", "send", "up"):
            self.do_call(frame, word, more)
            return
        if word == "jump":
            frame.row = more[0]
            return
        if word == "skip":
            value, = self.take(frame, 1)
            frame.row = more[0] if value in (NIL, FALSE) else frame.row + 1
            return
        if word == "give":
            value, = self.take(frame, 1)
            frames = self.threads[self.queue[0]].frames
            frames.pop()
            if frames:
                frames[-1].pile.append(value)
            else:
                self.end(("gave", value))
            return
        if word == "join":
            self.do_join(frame)
            return
        if word == "tick":
            frame.row += 1
            self.tick()
            return
        if word == "throw":
            raise Thrown(self.take(frame, 1)[0])
        for value in self.done(frame, word, more):
            lay(value)
        frame.row += 1

    def done(self, frame, word, more):
        """What a straight row lays."""
        if word == "push":
            return [more[0]]
        if word == "text":
            return [("thing", more[0] + 1)]
        if word == "load":
            assert self.sort(frame.slots[more[0]]) != "cell"
            return [frame.slots[more[0]]]
        if word == "store":
            frame.slots[more[0]], = self.take(frame, 1)
            return []
        if word == "cell":
            frame.slots[more[0]] = self.make("cell", [frame.slots[more[0]]])
            return []
        if word in ("peek", "see"):
            cell = self.cell_at(frame, more[0]) if word == "peek" else self.parts(self.kept(frame, more[0]))
            return [cell[0]]
        if word in ("poke", "set"):
            cell = self.cell_at(frame, more[0]) if word == "poke" else self.parts(self.kept(frame, more[0]))
            cell[0], = self.take(frame, 1)
            return []
        if word == "name":
            return [self.tops[more[0]]]
        if word == "keep":
            self.tops[more[0]], = self.take(frame, 1)
            return []
        if word == "fun":
            cells = [frame.slots[at] if where == 0 else self.kept(frame, at) for where, at in more[1]]
            assert all(self.sort(cell) == "cell" for cell in cells)
            return [self.make("function", [("int", more[0]), *cells])]
        if word == "new":
            return [self.make("object", [("int", more[0])] + [NIL for _ in self.fields(more[0])])]
        if word == "get":
            value, = self.take(frame, 1)
            at = self.field(value, more[0])
            return [self.parts(value)[at]]
        if word == "put":
            value, e = self.take(frame, 2)
            at = self.field(value, more[0])
            self.parts(value)[at] = e
            return []
        if word == "list":
            return [self.make("list", self.take(frame, more[0]))]
        if word == "pop":
            self.take(frame, 1)
            return []
        if word == "dup":
            return self.take(frame, 1) * 2
        if word == "say":
            self.out.append(self.line(self.take(frame, 1)[0]))
            return []
        if word == "putat":
            one, at, e = self.take(frame, 3)
            if self.sort(one) != "list" or at[0] != "int":
                throw("kind")
            if not 0 <= at[1] < len(self.parts(one)):
                throw("index")
            self.parts(one)[at[1]] = e
            return []
        if word == "spawn":
            value, = self.take(frame, 1)
            if self.sort(value) != "function":
                throw("kind")
            number = self.parts(value)[0][1]
            if self.unit.codes[number].params:
                throw("count")
            self.threads.append(Thread(Frame(number, self.unit.codes[number], value, [])))
            self.queue.append(len(self.threads) - 1)
            return [("thread", len(self.threads) - 1)]
        if word in ("add", "sub", "mul", "div", "rem", "eq", "lt", "le", "at"):
            return [self.of_two(word, *self.take(frame, 2))]
        return [self.of_one(word, *self.take(frame, 1))]

    def of_one(self, word, a):
        if word == "not":
            return ("bool", a in (NIL, FALSE))
        if word == "neg":
            if a[0] != "int":
                throw("kind")
            return self.bounded(-a[1])
        if word == "len":
            if self.sort(a) not in ("text", "list"):
                throw("kind")
            return ("int", len(self.parts(a)))
        if word == "worth":
            if self.sort(a) != "tie":
                throw("kind")
            return self.parts(a)[0]
        if a[0] != "thing":
            throw("kind")
        return self.make("tie", [a]) if word == "weak" else ("int", a[1])

    def of_two(self, word, a, b):
        both = self.sort(a) if self.sort(a) == self.sort(b) else None
        if word == "eq":
            return ("bool", self.parts(a) == self.parts(b) if both == "text" else a == b)
        if word == "at":
            if self.sort(a) not in ("text", "list") or b[0] != "int":
                throw("kind")
            if not 0 <= b[1] < len(self.parts(a)):
                throw("index")
            item = self.parts(a)[b[1]]
            return item if self.sort(a) == "list" else self.make("text", item)
        if word == "add" and both in ("text", "list"):
            if len(self.parts(a)) + len(self.parts(b)) > 60000:
                throw("overflow")
            return self.make(both, self.parts(a) + self.parts(b))
        if word in ("lt", "le") and both == "text":
            a, b = self.parts(a), self.parts(b)
        elif a[0] != "int" or b[0] != "int":
            throw("kind")
        else:
            a, b = a[1], b[1]
        if word in ("lt", "le"):
            return ("bool", a < b if word == "lt" else a <= b)
        if word in ("div", "rem") and b == 0:
            throw("zero")
        return self.bounded({"add": a + b, "sub": a - b, "mul": a * b, "div": a // (b or 1), "rem": a % (b or 1)}[word])

    def bounded(self, number):
        if not -2 ** 59 <= number < 2 ** 59:
            throw("overflow")
        return ("int", number)

    def do_call(self, frame, word, more):
        values = self.take(frame, more[-1] + 1)
        if word == "call":
            if self.sort(values[0]) != "function":
                throw("kind")
            self.begin(self.parts(values[0])[0][1], values[0], values[1:], more[-1])
            return
        if word == "send":
            if self.sort(values[0]) != "object":
                throw("kind")
            c = self.parts(values[0])[0][1]
        else:
            c = self.unit.classes[more[0]][1]
        code = self.method(c, more[-2])
        if code is None:
            throw("method")
        self.begin(code, NIL, values, more[-1] + 1)

    def do_join(self, frame):
        value = frame.pile[-1]
        if value[0] != "thread":
            throw("kind")
        state = self.threads[value[1]].state
        if state[0] == "gave":
            frame.pile[-1] = state[1]
            frame.row += 1
        elif state[0] == "threw":
            raise Thrown(state[1])
        else:
            self.threads[self.queue.pop(0)].state = ("waits", value[1])

    def line(self, value):
        sort = self.sort(value)
        if sort == "text":
            return self.parts(value)
        if sort == "list":
            return f"list {len(self.parts(value))}"
        if sort == "object":
            return f"object {self.unit.classes[self.parts(value)[0][1]][0]}"
        if sort == "function":
            return f"function {self.unit.codes[self.parts(value)[0][1]].name}"
        if sort == "tie":
            return "tie"
        if value[0] == "int":
            return str(value[1])
        if value[0] == "bool":
            return "true" if value[1] else "false"
        return " ".join(map(str, value))

    def told(self):
        ends = [(t.state[0], self.line(t.state[1])) if t.state[0] in ("gave", "threw") else None for t in self.threads]
        return (self.count, self.is_over(), list(self.out), ends, len(self.things))

    def meaning(self):
        """What [10.3] tells of a machine."""
        found, waiting = {}, self.roots()
        while waiting:
            value = waiting.pop()
            if value[0] == "thing" and value[1] not in found:
                sort, parts = self.things[value[1] - 1]
                if sort == "text":
                    found[value[1]] = (sort, parts)
                else:
                    waiting += parts
                    head = parts[0][1:] + tuple(parts[1:]) if sort in ("object", "function") else tuple(parts)
                    found[value[1]] = (sort, head)
        threads = tuple(
            (thread.state, tuple((f.number, f.row, tuple(f.slots), f.function, tuple(f.pile)) for f in thread.frames))
            for thread in self.threads
        )
        things = tuple((number, *found[number]) for number in sorted(found))
        return (self.count, tuple(self.out), tuple(self.tops), threads, tuple(self.queue), things)

    def image(self):
        """What [13.2] tells of a machine's image, written from its meaning."""
        ticks, out, tops, threads, queue, things = self.meaning()
        lines = [["ticks", ticks]] + [["said", *map(ord, line)] for line in out]
        lines += [["tops", *map(written, tops)], ["queue", *queue]]
        for state, frames in threads:
            lines.append([state[0], written(state[1])] if state[0] in ("gave", "threw") else [*state])
            for code, row, slots, function, pile in frames:
                lines += [["frame", code, row], ["slots", *map(written, slots)], ["calls", written(function)], ["pile", *map(written, pile)]]
        lines.append(["last", len(self.things)])
        for number, sort, parts in things:
            if sort == "text":
                inner = [f"w{8 * ord(sign) + 1}" for sign in parts]
            elif sort in ("object", "function"):
                inner = [f"w{8 * parts[0] + 1}", *map(written, parts[1:])]
            else:
                inner = map(written, parts)
            lines.append(["thing", number, sort, *inner])
        return "".join(" ".join(map(str, line)) + "\n" for line in lines)


FAULTS = "kind index zero overflow field method count deep stuck".split()


def written(value):
    """A told value as images write it."""
    if value[0] == "thing":
        return f"t{value[1]}"
    tags = {"int": 1, "bool": 2, "nil": 3, "fault": 4, "thread": 5}
    payload = {"nil": lambda: 0, "fault": lambda: FAULTS.index(value[1])}.get(value[0], lambda: int(value[1]))()
    return f"w{8 * payload + tags[value[0]]}"
