"""The plain meaning of programs: they are run by their trees, over things that never go."""

from unseenheap.moments import check_moments, check_most
from unseenheap.names import scopes_of
from unseenheap.placing import Placed
from unseenheap.runs import Run
from unseenheap.steps import step


class Plain:
    """A program that is run by its tree, with deeds at moments that are told."""

    def __init__(self, program, moments):
        scopes = scopes_of(program)
        check_moments(moments)
        self.inner = Run(Placed(program, scopes), moments)

    def run(self, most):
        """Go on until so many ticks are counted in all, or the run is over."""
        check_most(most)
        while self.inner.counted < most and not self.inner.has_ended():
            step(self.inner)

    def ticks(self):
        """How many ticks were counted."""
        return self.inner.counted

    def is_over(self):
        """Whether no thread is ready, and none waits."""
        return self.inner.has_ended()

    def lines(self):
        """The lines put out."""
        return list(self.inner.said)

    def ends(self):
        """What the threads gave or threw, None for those that are not over."""
        found = []
        for thread in self.inner.threads:
            if thread.result is None:
                found.append(None)
            else:
                word, value = thread.result
                found.append((word, self.inner.line_of(value)))
        return found

    def made(self):
        """How many things were made."""
        return len(self.inner.things.made_ones)
