"""A code in which blocks of rows are exchanged by the rules of the optimiser.

Rows keep their elder numbers as long as they are there: what comes in the place of a block takes the numbers of its
first rows. A jump, a skip or a handler that tells a row that is gone tells the first one behind it that is there.
"""

from heapq import heappop, heappush

from unseenheap.judging import LEADING_BEHIND, LEADING_TO, Judge
from unseenheap.units import Code

# The part of a handler that tells the row at which it goes on.
CALLED_TO = 2
# How many rows a block has ahead of its last one, at most.
REACH = 2


class Refining:
    """A code of a unit with its table, while rules are used in it."""

    def __init__(self, unit, number, states):
        self.code = unit.codes[number]
        self.rows = list(self.code.rows)
        self.many = len(self.rows)
        self.depths = [None if state is None else state[0] for state in states]
        self.is_gone = [False for _ in self.rows]
        self.behind = list(range(1, self.many + 1))
        self.ahead = list(range(-1, self.many - 1))
        self.first_around = Judge(unit, number).around
        self.groups = groups_around(self.code.handlers, self.many)
        # How many rows each handler is around, and whether it is gone.
        self.widths = [0 for _ in self.code.handlers]
        self.is_handler_gone = [False for _ in self.code.handlers]
        for at in range(self.many):
            for handler in self.groups[at]:
                self.widths[handler] += 1
        # How many jumps, skips and handlers tell each row, and the rows that told it.
        self.tellers = [0 for _ in self.rows]
        self.sources = [[] for _ in self.rows]
        for handler in self.code.handlers:
            self.tell(handler[CALLED_TO], 1)
        for at, row in enumerate(self.rows):
            if row[0] in LEADING_TO:
                self.tell(row[1], 1)
                self.add_source(row[1], at)
        # The rows that are to be looked at, as a heap; a row is in it once.
        self.waiting = []
        self.is_waiting = [False for _ in self.rows]
        for at in range(self.many):
            self.look_at_later(at)

    def there(self, at):
        """The row that is told by what told a row; it is beyond the last one if no row is behind."""
        end = at
        while end < self.many and self.is_gone[end]:
            end = self.behind[end]
        # Ways are made shorter, as they may be gone often.
        while at < self.many and self.is_gone[at]:
            self.behind[at], at = end, self.behind[at]
        return end

    def tell(self, at, more):
        """Let a row be told by one jump, skip or handler more, or less."""
        told = self.there(at)
        if told < self.many:
            self.tellers[told] += more

    def add_source(self, at, source):
        """Let a row be known to be told by another one."""
        told = self.there(at)
        if told < self.many:
            self.sources[told].append(source)

    def look_at_later(self, at):
        """Let a row be looked at again."""
        if at < self.many and not self.is_waiting[at]:
            self.is_waiting[at] = True
            heappush(self.waiting, at)

    def look_around(self, at):
        """Let a row, if it is one, and those at which blocks with it may begin, be looked at again."""
        left = REACH
        while left >= 0 and 0 <= at < self.many:
            self.look_at_later(at)
            at = self.ahead[at]
            left -= 1

    def next_waiting(self):
        """The least row that is to be looked at, or None."""
        while self.waiting:
            at = heappop(self.waiting)
            self.is_waiting[at] = False
            if not self.is_gone[at]:
                return at
        return None

    def block_at(self, at, many):
        """The numbers of the rows of a block of so many rows that begins at a row, or [] if there is none."""
        found = [at]
        while len(found) < many:
            last = self.behind[found[-1]]
            if last >= self.many or self.tellers[last] > 0 or self.groups[last] != self.groups[at]:
                return []
            found.append(last)
        return found

    def exchange(self, block, made):
        """Exchange the rows of a block for others that are made, of which there are no more."""
        for at in block:
            if self.rows[at][0] in LEADING_TO:
                told = self.rows[at][1]
                self.tell(told, -1)
                self.look_around(self.there(told))
        for at, row in zip(block, made):
            self.rows[at] = row
            if row[0] in LEADING_TO:
                self.tell(row[1], 1)
                self.add_source(row[1], at)
        if len(made) > 1:
            self.depths[block[1]] = self.depths[block[0]] + 1
        for at in block[len(made):]:
            self.let_go(at)
        here = self.there(block[0])
        self.look_around(here)
        if here < self.many:
            self.look_at_later(self.behind[here])
            for source in self.sources[here]:
                self.look_at_later(source)

    def let_go(self, at):
        """Let a row go: what told it tells the first one behind."""
        behind, ahead = self.behind[at], self.ahead[at]
        self.is_gone[at] = True
        if ahead >= 0:
            self.behind[ahead] = behind
        if behind < self.many:
            self.ahead[behind] = ahead
            self.tellers[behind] += self.tellers[at]
            self.sources[behind].extend(self.sources[at])
        for handler in self.groups[at]:
            self.widths[handler] -= 1
            if self.widths[handler] == 0:
                self.is_handler_gone[handler] = True
                told = self.code.handlers[handler][CALLED_TO]
                self.tell(told, -1)
                self.look_around(self.there(told))

    def find_dead(self):
        """Let rows to which no way comes any more have no state."""
        seen = [False for _ in self.rows]
        waiting = [0]
        while waiting:
            at = waiting.pop()
            if not seen[at]:
                seen[at] = True
                waiting.extend(self.led_to(at))
        for at in range(self.many):
            if not self.is_gone[at] and not seen[at] and self.depths[at] is not None:
                self.depths[at] = None
                self.look_at_later(at)

    def led_to(self, at):
        """The rows to which a row with a state leads."""
        row = self.rows[at]
        found = [] if row[0] in LEADING_BEHIND else [self.behind[at]]
        if row[0] in LEADING_TO:
            found.append(self.there(row[1]))
        if self.first_around[at] is not None:
            found.append(self.there(self.first_around[at][CALLED_TO]))
        return found

    def elder_numbers(self):
        """The elder numbers of all rows that are there, in their order."""
        return [at for at in range(self.many) if not self.is_gone[at]]

    def code_made(self):
        """The code with the rows that are there, numbered anew."""
        elder = self.elder_numbers()
        new = {at: number for number, at in enumerate(elder)}
        rows = []
        for at in elder:
            row = self.rows[at]
            rows.append((row[0], self.told_anew(row[1], new)) if row[0] in LEADING_TO else row)
        handlers = []
        for number, (begin, end, at, depth) in enumerate(self.code.handlers):
            if not self.is_handler_gone[number]:
                told = [self.told_anew(part, new) for part in (begin, end, at)]
                handlers.append((*told, depth))
        code = self.code
        return Code(code.name, code.params, code.slots, code.keeps, tuple(rows), tuple(handlers))

    def told_anew(self, at, new):
        """The new number of what told a row; beyond the last one it is as far beyond."""
        found = self.there(at)
        return new[found] if found < self.many else len(new) + found - self.many


def groups_around(handlers, many):
    """For each of so many rows the tuple of the numbers of the handlers around it."""
    opened = [[] for _ in range(many + 1)]
    closed = [[] for _ in range(many + 1)]
    for number, (begin, end, _, _) in enumerate(handlers):
        if begin < many:
            opened[begin].append(number)
            closed[min(end, many)].append(number)
    found = []
    around = {}
    group = ()
    for at in range(many):
        if opened[at] or closed[at]:
            around.update({number: True for number in opened[at]})
            for number in closed[at]:
                del around[number]
            group = tuple(sorted(around))
        found.append(group)
    return found
