"""What lies in a bound heap, what it means, and whether it is sound."""

from unseenheap.auditing import Audit
from unseenheap.errors import NoLayout
from unseenheap.following import meaning_from
from unseenheap.laying import Laid


class Layout:
    """What lies in a bound heap, made as it is given."""

    def __init__(self, room, words, use, free, scan, top, left, copied, remembered, roots, last):
        self.room = room
        self.words = words
        self.use = use
        self.free = free
        self.scan = scan
        self.top = top
        self.left = left
        self.copied = copied
        self.remembered = remembered
        self.roots = roots
        self.last = last

    def __eq__(self, other):
        return (
            isinstance(other, Layout) and self.room == other.room and self.words == other.words
            and self.use == other.use and self.free == other.free and self.scan == other.scan
            and self.top == other.top and self.left == other.left and self.copied == other.copied
            and self.remembered == other.remembered and self.roots == other.roots and self.last == other.last
        )


def broken(layout):
    """The tuple of the number of the first sentence that doesn't hold, or () if all hold."""
    if not isinstance(layout, Layout):
        raise NoLayout()
    number = Audit(layout).first_broken()
    return () if number is None else (number,)


def is_sound(thing):
    """Whether a thing is a layout of which all sentences hold."""
    return isinstance(thing, Layout) and Audit(thing).first_broken() is None


def meaning_of(layout):
    """What a sound layout means: its handles and its living things."""
    if not is_sound(layout):
        raise NoLayout()
    return meaning_from(Laid(layout.words), layout.roots)
