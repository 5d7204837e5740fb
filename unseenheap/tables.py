"""The table of a code: the states of its rows, made by looking at the least row again and again."""

from heapq import heappop, heappush

from unseenheap.judging import joined


class Table:
    """The states of a code's rows so far, whence each row got its first one, and why the code is refused."""

    def __init__(self, judge):
        self.judge = judge
        self.states = [None for _ in judge.code.rows]
        self.whence = [None for _ in judge.code.rows]
        self.pending = []
        self.is_pending = [False for _ in judge.code.rows]
        self.refused_at = None
        self.refused_for = ""
        self.unlike_door = None
        self.give_state(0, judge.first_state())
        while self.pending and self.refused_at is None:
            self.look_at(heappop(self.pending))

    def give_state(self, at, state):
        """Let a row have a state, for which it is to be looked at."""
        self.states[at] = state
        if not self.is_pending[at]:
            self.is_pending[at] = True
            heappush(self.pending, at)

    def refuse(self, at, word):
        """Keep where and why the code is refused."""
        self.refused_at = at
        self.refused_for = word

    def look_at(self, at):
        """Look at a row: it is refused, or leads to others."""
        judge = self.judge
        state = self.states[at]
        self.is_pending[at] = False
        if not judge.is_well_set(at):
            self.refuse(at, "set")
        elif not judge.can_be_done(at, state):
            self.refuse(at, "done")
        else:
            for door, to in judge.doors(at):
                if self.refused_at is None:
                    self.lead(at, door, to, judge.state_led(at, door, state))

    def lead(self, at, door, to, state):
        """Let a row lead to another one with a state."""
        known = self.states[to]
        if known is None:
            self.whence[to] = (at, door)
            self.give_state(to, state)
        elif known[0] != state[0]:
            self.refuse(at, "meet")
            self.unlike_door = (door, to)
        elif joined(known, state) != known:
            self.give_state(to, joined(known, state))

    def way_to(self, at):
        """The way by which a row got its first state."""
        found = []
        while self.whence[at] is not None:
            ahead, door = self.whence[at]
            found.append((door, at))
            at = ahead
        return (("on", 0), *found[::-1])
