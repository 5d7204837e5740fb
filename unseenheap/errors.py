"""The errors: each keeps what it is made with, and nothing else."""


class HeapError(ValueError):
    """What all errors of this package derive from."""


class NoText(HeapError):
    """What should be a text is no string."""

    def __init__(self):
        pass


class TooDeep(HeapError):
    """A program is deeper than a program may be."""

    def __init__(self):
        pass


class NoProgram(HeapError):
    """What should be a program's tree is none."""

    def __init__(self):
        pass


class NoNumber(HeapError):
    """What should be a number is none, or is out of its bounds."""

    def __init__(self):
        pass


class NoRow(HeapError):
    """What should be a row of a code is none."""

    def __init__(self):
        pass


class NoClass(HeapError):
    """A unit has no class of this number."""

    def __init__(self):
        pass


class NoCode(HeapError):
    """A unit has no code of this number."""

    def __init__(self):
        pass


class NoRule(HeapError):
    """A rule of the optimiser can't be used at this place."""

    def __init__(self):
        pass


class NoWord(HeapError):
    """What should be a word of the heap is none."""

    def __init__(self):
        pass


class NoRoom(HeapError):
    """What should be a room is none."""

    def __init__(self):
        pass


class NoSort(HeapError):
    """What should be a sort of things is none."""

    def __init__(self):
        pass


class NoItems(HeapError):
    """Items are none, or may not stand where they should."""

    def __init__(self):
        pass


class NoHandle(HeapError):
    """What should be a handle is not held."""

    def __init__(self):
        pass


class NoThing(HeapError):
    """A handle holds no thing."""

    def __init__(self):
        pass


class NoPlace(HeapError):
    """A thing has no such place."""

    def __init__(self):
        pass


class NoLayout(HeapError):
    """What should be a sound layout is none."""

    def __init__(self):
        pass


class BadText(HeapError):
    """A text is no program's; line is the first one that tells so."""

    def __init__(self, line):
        self.line = line


class BadNames(HeapError):
    """A program has faults of names; word and name tell the first one."""

    def __init__(self, word, name):
        self.word = word
        self.name = name


class NoMoments(HeapError):
    """Moments are none; at is the first pair that can't stand there, or -1."""

    def __init__(self, at):
        self.at = at


class BadCode(HeapError):
    """A code can't be made of this part."""

    def __init__(self, part):
        self.part = part


class BadUnit(HeapError):
    """A unit can't be made of this part."""

    def __init__(self, part):
        self.part = part


class NotLet(HeapError):
    """The examiner refuses a unit at this row of this code."""

    def __init__(self, code, row):
        self.code = code
        self.row = row


class BadLine(HeapError):
    """A text is no unit's; line is the first one that tells so."""

    def __init__(self, line):
        self.line = line


class BadRoom(HeapError):
    """A room can't be made of this part."""

    def __init__(self, part):
        self.part = part


class HeapFull(HeapError):
    """No room is left for what would take so many words."""

    def __init__(self, taken):
        self.taken = taken


class BadImage(HeapError):
    """A text is no image; line is the first one that tells so."""

    def __init__(self, line):
        self.line = line
