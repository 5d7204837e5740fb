"""What a machine is while it runs: its heap, threads, ticks, and what it has put out."""

from unseenheap.laying import AHEAD
from unseenheap.signs import words_of_text
from unseenheap.stores import store_for
from unseenheap.tellings import word_of_fault
from unseenheap.words import INTEGER_TAG, NIL_WORD, TAGS

DEPTH = 3
HANDLERS_ROW = 2


class Frame:
    """A call under way: its code, the row that is next, its slots, the function called, and its pile.

    The words of slots, of called, which has one, and of pile are changed where they stand when things are moved.
    """

    def __init__(self, code, slots, called):
        self.code = code
        self.row = 0
        self.slots = slots
        self.called = [called]
        self.pile = []

    def twin(self):
        """A frame that goes on apart."""
        made = Frame(self.code, list(self.slots), self.called[0])
        made.row = self.row
        made.pile = list(self.pile)
        return made


class Strand:
    """A thread: its frames, the first call first; when it is over, how it ended, and the word it gave or threw."""

    def __init__(self, frames):
        self.frames = frames
        self.ending = ""
        self.left_words = []

    def rows_of_words(self):
        """The lists of the words that this thread has, in their order."""
        found = [self.left_words]
        for frame in self.frames:
            found.extend([frame.slots, frame.called, frame.pile])
        return found

    def twin(self):
        """A thread that goes on apart."""
        made = Strand([frame.twin() for frame in self.frames])
        made.ending = self.ending
        made.left_words = list(self.left_words)
        return made


class Core:
    """A run of a unit over a heap with a room, or an endless one."""

    def __init__(self, plan, room, moments):
        self.plan = plan
        self.moments = moments
        self.moments_done = 0
        self.counted = 0
        self.said = []
        self.text_words = []
        self.top_words = []
        self.strands = []
        self.queue = []
        # For each thread that waits the one that it waits for.
        self.awaited = {}
        self.store = store_for(room, self)

    def root_rows(self):
        """The lists of words from which things can be come to, in their order."""
        found = [self.text_words, self.top_words]
        for strand in self.strands:
            found.extend(strand.rows_of_words())
        return found

    def root_words(self):
        """The words from which things can be come to, in their order."""
        found = []
        for row in self.root_rows():
            found.extend(row)
        return found

    def begin(self):
        """Make the texts of the unit and the functions of its top names, and begin with thread 0."""
        for text in self.plan.unit.texts:
            self.store.reserve(len(text) + AHEAD)
            self.text_words.append(self.store.place("text", words_of_text(text)))
        for _, code in self.plan.unit.tops:
            if code is None:
                self.top_words.append(NIL_WORD)
            else:
                self.store.reserve(1 + AHEAD)
                self.top_words.append(self.store.place("function", [code * TAGS + INTEGER_TAG]))
        self.begin_strand(0, NIL_WORD)

    def has_ended(self):
        """Whether no thread is ready, and none waits."""
        return not self.queue and not self.awaited

    def new_frame(self, code, called, args):
        """The frame with which a call of a code begins."""
        slots = [*args, *[NIL_WORD for _ in range(self.plan.unit.codes[code].slots - len(args))]]
        return Frame(code, slots, called)

    def begin_strand(self, code, called):
        """Begin a thread that calls a code without arguments; its number."""
        self.strands.append(Strand([self.new_frame(code, called, [])]))
        self.queue.append(len(self.strands) - 1)
        return len(self.strands) - 1

    def tick(self):
        """Count a tick, and do its deeds."""
        self.counted += 1
        while self.moments_done < len(self.moments) and self.moments[self.moments_done][0] == self.counted:
            self.moments_done += 1
            self.do_deed(self.moments[self.moments_done - 1][1])

    def pass_moments(self):
        """Leave the moments behind whose ticks are not beyond the last one counted."""
        while self.moments_done < len(self.moments) and self.moments[self.moments_done][0] <= self.counted:
            self.moments_done += 1

    def do_deed(self, deed):
        """Do what is to be done at a moment."""
        if deed == "switch":
            self.queue.append(self.queue.pop(0))
        elif deed == "sweep":
            self.store.sweep()
        elif deed == "young":
            self.store.gather()
        elif deed == "turn":
            self.store.turn()
        elif deed == "whole":
            self.store.whole()
        else:
            self.store.steps(deed[1])

    def throw(self, word):
        """Throw a value in the thread that runs: it goes on where this is caught, or ends."""
        frames = self.strands[self.queue[0]].frames
        # The rows of frames ahead of the last one are those behind their calls.
        behind = 0
        while frames:
            frame = frames[-1]
            handler = self.plan.around[frame.code][frame.row - behind]
            if handler is not None:
                del frame.pile[handler[DEPTH]:]
                frame.pile.append(word)
                frame.row = handler[HANDLERS_ROW]
                return
            frames.pop()
            behind = 1
        self.end_strand("threw", word)

    def throw_fault(self, name):
        """Throw a fault."""
        self.throw(word_of_fault(name))

    def give(self, word):
        """End the call under way with what it gives."""
        frames = self.strands[self.queue[0]].frames
        frames.pop()
        if frames:
            frames[-1].pile.append(word)
        else:
            self.end_strand("gave", word)

    def end_strand(self, ending, word):
        """End the thread that runs; those that wait for it are ready."""
        ended = self.queue.pop(0)
        self.strands[ended].ending = ending
        self.strands[ended].left_words = [word]
        for number in [number for number in sorted(self.awaited) if self.awaited[number] == ended]:
            self.make_ready(number)

    def make_ready(self, number):
        """Let a thread wait no more."""
        del self.awaited[number]
        self.queue.append(number)

    def wait_for(self, number):
        """Let the thread that runs wait for another one."""
        self.awaited[self.queue.pop(0)] = number

    def free_least(self):
        """Let the least thread that waits go on, as none is ready; its join throws stuck."""
        self.make_ready(min(list(self.awaited)))
        self.throw_fault("stuck")

    def twin(self):
        """A run that goes on apart."""
        made = Core(self.plan, None, self.moments)
        made.moments_done = self.moments_done
        made.counted = self.counted
        made.said = list(self.said)
        made.text_words = list(self.text_words)
        made.top_words = list(self.top_words)
        made.strands = [strand.twin() for strand in self.strands]
        made.queue = list(self.queue)
        made.awaited = {number: self.awaited[number] for number in self.awaited}
        made.store = self.store.twin(made)
        return made
