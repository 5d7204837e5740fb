"""Words that are taken one by one, from the first to the last."""

from unseenheap.errors import BadText

# What stands for a word that is neither a key nor a mark, and for the end: capitals, as number is a key, too.
KINDS = {"name": "NAME", "number": "NUMBER", "text": "TEXT", "end": "END"}
OPENING = ("(", "[", "{")
CLOSING = (")", "]", "}")
MOST_OPEN = 60


class Cursor:
    """The place that has been come to in a program's words, and how many brackets are open there."""

    def __init__(self, found, end_line):
        self.found = [*found, ("end", "", end_line)]
        self.at = 0
        self.brackets = 0

    def kind(self):
        """The next word if it is a key or a mark, else what stands for it."""
        sort, word, _ = self.found[self.at]
        return KINDS.get(sort, word)

    def kind_behind(self):
        """As kind, of the word behind the next one; asked where the next one is not the end."""
        sort, word, _ = self.found[self.at + 1]
        return KINDS.get(sort, word)

    def refuse(self):
        """Tell that no program goes on with the next word."""
        raise BadText(self.found[self.at][2])

    def take(self):
        """The next word, which is left behind."""
        kind = self.kind()
        if kind in OPENING:
            if self.brackets == MOST_OPEN:
                self.refuse()
            self.brackets += 1
        elif kind in CLOSING:
            self.brackets -= 1
        self.at += 1
        return self.found[self.at - 1][1]

    def expect(self, kind):
        """The next word, which must be of this kind, and is left behind."""
        if self.kind() != kind:
            self.refuse()
        return self.take()
