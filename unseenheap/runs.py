"""A run of a placed program: its threads, its ticks, what is done at them, and what it has put out.

What a call has still to do is a list of tasks, the next one last: nodes of the tree, and tuples of the same form that
tell what is done behind them. So nothing nests while a program runs, and it can stop at each tick.
"""

from unseenheap.things import Things
from unseenheap.values import NIL, fault, plain_line

MOST_CALLS = 200


class Call:
    """A call under way: the function called or nil, its code, its slots, what it has to do, and values that wait."""

    def __init__(self, function, code, args):
        self.function = function
        self.code = code
        self.slots = [*args, *[NIL for _ in code.cells[len(args):]]]
        self.work = [*code.block[::-1], ("then cells",), ("tick",)]
        self.pile = []

    def take(self, many):
        """The values that wait at the end, so many, which wait no more."""
        at = len(self.pile) - many
        taken = self.pile[at:]
        del self.pile[at:]
        return taken


class Thread:
    """A thread: its calls, the first one first, and, when it is over, what it gave or threw."""

    def __init__(self, call):
        self.calls = [call]
        self.result = None


class Run:
    """A run of a placed program with moments that are told."""

    def __init__(self, placed, moments):
        self.placed = placed
        self.moments = moments
        self.moments_done = 0
        self.counted = 0
        self.said = []
        self.things = Things()
        for text in placed.texts:
            self.things.make_thing("text", None, text)
        self.top_values = []
        for _, code in placed.tops:
            self.top_values.append(NIL if code is None else self.things.make_thing("function", code, []))
        self.threads = [Thread(Call(NIL, placed.codes[0], []))]
        self.queue = [0]
        # For each thread that waits the one that it waits for.
        self.awaited = {}

    def has_ended(self):
        """Whether no thread is ready, and none waits."""
        return not self.queue and not self.awaited

    def call_under_way(self):
        """The last call of the thread that runs."""
        return self.threads[self.queue[0]].calls[-1]

    def tick(self):
        """Count a tick, and do its deeds."""
        self.counted += 1
        while self.moments_done < len(self.moments) and self.moments[self.moments_done][0] == self.counted:
            deed = self.moments[self.moments_done][1]
            self.moments_done += 1
            if deed == "switch":
                self.queue.append(self.queue.pop(0))
            elif deed == "sweep":
                self.things.sweep(self.held())

    def held(self):
        """What texts, top names, threads that are over, and calls under way hold."""
        found = [("thing", k + 1) for k in range(len(self.placed.texts))]
        found.extend(self.top_values)
        for thread in self.threads:
            if thread.result is not None:
                found.append(thread.result[1])
            for call in thread.calls:
                found.extend([call.function, *call.slots, *call.pile])
        return found

    def begin_call(self, function, number, args):
        """Begin a call of a code in the thread that runs, if it has as many parameters, and not too many calls."""
        code = self.placed.codes[number]
        calls = self.threads[self.queue[0]].calls
        if code.many != len(args):
            self.throw(fault("count"))
        elif len(calls) >= MOST_CALLS:
            self.throw(fault("deep"))
        else:
            calls.append(Call(function, code, args))

    def begin_thread(self, function):
        """Begin a thread that calls a function without arguments; the thread."""
        code = self.placed.codes[self.things.thing_of(function).head]
        self.threads.append(Thread(Call(function, code, [])))
        self.queue.append(len(self.threads) - 1)
        return ("thread", len(self.threads) - 1)

    def give(self, value):
        """End the call under way with what it gives."""
        calls = self.threads[self.queue[0]].calls
        calls.pop()
        if calls:
            calls[-1].pile.append(value)
        else:
            self.end_thread(("gave", value))

    def throw(self, value):
        """Throw a value: what is under way ends, up to the block that catches it."""
        calls = self.threads[self.queue[0]].calls
        while calls:
            call = calls[-1]
            while call.work:
                task = call.work.pop()
                if task[0] == "then catch":
                    call.pile.clear()
                    call.work.extend(task[2][::-1])
                    self.make_variable(call, task[1], value)
                    return
            calls.pop()
        self.end_thread(("threw", value))

    def end_thread(self, result):
        """End the thread that runs; those that wait for it are ready."""
        ended = self.queue.pop(0)
        self.threads[ended].result = result
        for number in [number for number in sorted(self.awaited) if self.awaited[number] == ended]:
            self.make_ready(number)

    def wait_for(self, number):
        """Let the thread that runs wait for another one."""
        self.awaited[self.queue.pop(0)] = number

    def make_ready(self, number):
        """Let a thread wait no more."""
        del self.awaited[number]
        self.queue.append(number)

    def free_least(self):
        """Let the least thread that waits go on, as none is ready; its join throws stuck."""
        self.make_ready(min(list(self.awaited)))
        self.throw(fault("stuck"))

    def value_at(self, call, place):
        """What the variable at a place has."""
        word, at = place
        if word == "slot":
            return call.slots[at]
        if word == "top":
            return self.top_values[at]
        return self.things.thing_of(self.cell_at(call, place)).parts[0]

    def cell_at(self, call, place):
        """The cell of a variable that is in one."""
        word, at = place
        return call.slots[at] if word == "cell" else self.things.thing_of(call.function).parts[at]

    def set_variable(self, call, place, value):
        """Set the variable at a place, which is there."""
        word, at = place
        if word == "slot":
            call.slots[at] = value
        elif word == "top":
            self.top_values[at] = value
        else:
            self.things.thing_of(self.cell_at(call, place)).parts[0] = value

    def make_variable(self, call, place, value):
        """Make the variable at a place, which has a new cell if it is in one."""
        word, at = place
        if word == "cell":
            call.slots[at] = self.things.make_thing("cell", None, [value])
        else:
            self.set_variable(call, place, value)

    def line_of(self, value):
        """The line that say puts out for a value."""
        if value[0] != "thing":
            return plain_line(value)
        thing = self.things.thing_of(value)
        if thing.sort_name == "text":
            return thing.parts
        if thing.sort_name == "list":
            return "list " + str(len(thing.parts))
        if thing.sort_name == "object":
            return "object " + self.placed.classes[thing.head][0]
        if thing.sort_name == "function":
            return "function " + self.placed.codes[thing.head].name
        return "tie"
