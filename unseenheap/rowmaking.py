"""Rows of one code, made one behind another."""

START = 0
ENDS = 1


class RowMaker:
    """The rows and handlers of a code so far, and the loops that are open: where each starts, and what leaves it."""

    def __init__(self):
        self.laid_rows = []
        self.found_handlers = []
        self.loops = []

    def lay_row(self, *row):
        """Lay a row behind the others; its number."""
        self.laid_rows.append(row)
        return len(self.laid_rows) - 1

    def here(self):
        """The number of the row that will be next."""
        return len(self.laid_rows)

    def land(self, at):
        """Let a jump or skip, which was laid without an aim, lead to the row that will be next."""
        self.laid_rows[at] = (self.laid_rows[at][0], len(self.laid_rows))

    def open_loop(self):
        """Begin with a loop, the first row of which will be next."""
        self.loops.append((self.here(), []))

    def leave_round(self):
        """Go back to the begin of the innermost loop."""
        self.lay_row("jump", self.loops[-1][START])

    def leave_loop(self):
        """Go on behind the innermost loop."""
        self.loops[-1][ENDS].append(self.lay_row("jump", 0))

    def close_loop(self):
        """End with a loop: what leaves it goes on at the row that will be next."""
        for at in self.loops.pop()[ENDS]:
            self.land(at)

    def handle(self, begin, end):
        """Let what is thrown in rows go on at the row that will be next, with nothing else on the pile."""
        self.found_handlers.append((begin, end, self.here(), 0))
