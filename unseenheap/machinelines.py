"""The lines of a machine's image, as far as each can be judged by what its unit is, and by the lines ahead of it."""

from unseenheap.imagelines import ImageLines
from unseenheap.laying import is_sign
from unseenheap.signs import text_of_numbers
from unseenheap.words import NIL_WORD, TAGS, THREAD_TAG

WAITING_OR_READY = ("ready", "waits")
STATES = ("ready", "waits", "gave", "threw")
CALLING = ("call", "send", "up")
# The words with which the lines of a frame begin.
FRAME_LINES = ("frame", "slots", "calls", "pile")


class FrameRead:
    """A frame as it was read."""

    def __init__(self, code, row):
        self.code = code
        self.row = row
        self.slot_worths = ()
        self.called_worth = ("word", NIL_WORD)
        self.pile_worths = ()


class ThreadRead:
    """A thread as it was read: its state, the thread it waits for, or what it gave or threw, and its frames."""

    def __init__(self, state):
        self.state = state
        self.awaited_one = None
        self.left_worth = None
        self.frames = []


class MachineLines:
    """A machine's image that is read; claims has (line, word, what the line tells) for all that is judged later."""

    def __init__(self, unit, tables, text):
        self.unit = unit
        self.tables = tables
        self.rest = ImageLines(text)
        self.claims = []
        self.threads_read = []
        self.methods = {code: True for _, _, _, methods in unit.classes for _, code in methods}
        self.ticks_read = self.rest.one_number("ticks")
        self.said = self.read_said()
        self.top_worths = self.read_worths("tops", "value", len(unit.tops))
        self.queue = self.read_queue()
        self.read_threads()
        last = self.rest.one_number("last")
        self.claim("last", self.rest.at, ())
        self.last = last
        self.things_read = self.rest.things_to_end(last)
        for number, sort, worths, line in self.things_read:
            self.claim("thing", line, (number, sort, worths))

    def claim(self, word, line, told):
        """Keep what a line tells."""
        self.claims.append((word, line, told))

    def read_said(self):
        """The lines that were put out."""
        found = []
        while self.rest.first_word(self.rest.at) == "said":
            numbers = [self.rest.number(part) for part in self.rest.told_behind("said")]
            self.rest.refuse_unless(all([is_sign(number) for number in numbers]))
            found.append(text_of_numbers(numbers))
            self.rest.leave()
        return found

    def read_worths(self, word, sort, many):
        """So many worths behind a word, for which a sort of slots is told."""
        told = self.rest.told_behind(word)
        self.rest.refuse_unless(len(told) == many)
        found = self.rest.worths(told)
        self.claim("worths", self.rest.leave(), [(worth, sort) for worth in found])
        return found

    def read_queue(self):
        """The queue, in which no number stands twice."""
        found = [self.rest.number(part) for part in self.rest.told_behind("queue")]
        self.rest.refuse_unless(len({number: True for number in found}) == len(found))
        self.claim("queue", self.rest.leave(), found)
        return found

    def read_threads(self):
        """All threads, of which there must be one."""
        self.rest.refuse_unless(self.rest.first_word(self.rest.at) in STATES)
        while self.rest.first_word(self.rest.at) in STATES:
            thread = ThreadRead(self.rest.first_word(self.rest.at))
            self.threads_read.append(thread)
            if thread.state in WAITING_OR_READY:
                self.read_state(thread)
                thread.frames.append(self.read_frame(thread, True))
                while self.rest.first_word(self.rest.at) == "frame":
                    thread.frames.append(self.read_frame(thread, False))
            else:
                thread.left_worth = self.read_worths(thread.state, "value", 1)[0]

    def read_state(self, thread):
        """The line of a thread that is not over."""
        if thread.state == "waits":
            thread.awaited_one = self.rest.one_number("waits")
            self.claim("waits", self.rest.at, thread.awaited_one)
        else:
            self.rest.refuse_unless(not self.rest.told_behind("ready"))
            self.rest.leave()

    def read_frame(self, thread, is_first):
        """The four lines of a frame."""
        told = self.rest.told_behind("frame")
        self.rest.refuse_unless(len(told) == 2)
        code, row = self.rest.number(told[0]), self.rest.number(told[1])
        self.rest.refuse_unless(self.is_code_there(code, is_first) and self.is_row_there(code, row))
        may_be_ahead = self.may_be_ahead(code, row)
        may_be_last = self.may_be_last(thread, code, row)
        self.rest.refuse_unless(may_be_ahead or may_be_last)
        self.rest.leave()
        frame = FrameRead(code, row)
        depth, sorts = self.tables[code][row]
        frame.slot_worths = self.read_slots(sorts)
        frame.called_worth = self.read_called(code)
        frame.pile_worths = self.read_pile(thread, depth if may_be_last else None, depth - 1 if may_be_ahead else None)
        return frame

    def is_code_there(self, code, is_first):
        """Whether a frame may have a code: the top's has code 0, others are of codes that threads can begin with."""
        if code >= len(self.unit.codes) or (code == 0) != (is_first and len(self.threads_read) == 1):
            return False
        return not is_first or self.unit.codes[code].params == 0

    def is_row_there(self, code, row):
        """Whether a code has a row to which a way comes."""
        return row < len(self.tables[code]) and self.tables[code][row] is not None

    def word_behind(self):
        """The first word behind the next four lines, "" if these are no lines of a frame."""
        if not all([self.rest.first_word(self.rest.at + k) == word for k, word in enumerate(FRAME_LINES)]):
            return ""
        return self.rest.first_word(self.rest.at + len(FRAME_LINES))

    def may_be_ahead(self, code, row):
        """Whether the next frame may stand ahead of its thread's last one; where lines lack, this can't be told."""
        if self.word_behind() in STATES or self.word_behind() == "last":
            return False
        return row > 0 and self.unit.codes[code].rows[row - 1][0] in CALLING

    def may_be_last(self, thread, code, row):
        """Whether the next frame may be its thread's last one; where lines lack, this can't be told."""
        if self.word_behind() == "frame":
            return False
        return thread.state == "ready" or self.unit.codes[code].rows[row][0] == "join"

    def read_slots(self, sorts):
        """What the slots have, for which their sorts are told."""
        told = self.rest.told_behind("slots")
        self.rest.refuse_unless(len(told) == len(sorts))
        found = self.rest.worths(told)
        self.claim("worths", self.rest.leave(), list(zip(found, sorts)))
        return found

    def read_called(self, code):
        """The function called: none by the top, a thing by codes that are no methods."""
        told = self.rest.told_behind("calls")
        self.rest.refuse_unless(len(told) == 1)
        found = self.rest.worth(told[0])
        is_nil = found == ("word", NIL_WORD)
        if code == 0:
            self.rest.refuse_unless(is_nil)
        else:
            self.rest.refuse_unless(found[0] == "thing" or is_nil and code in self.methods)
        self.claim("calls", self.rest.leave(), (found, code))
        return found

    def read_pile(self, thread, depth, depth_ahead):
        """The pile, which has a depth if its frame may be the last one, or another one if it may be ahead of this."""
        told = self.rest.told_behind("pile")
        self.rest.refuse_unless(len(told) == depth or len(told) == depth_ahead)
        found = self.rest.worths(told)
        if len(told) == depth and thread.state == "waits":
            self.rest.refuse_unless(found[-1] == ("word", thread.awaited_one * TAGS + THREAD_TAG))
        self.claim("worths", self.rest.leave(), [(worth, "value") for worth in found])
        return found
