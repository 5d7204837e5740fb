"""Rooms: how many words a bound heap has."""

from unseenheap.errors import BadRoom, NoRoom
from unseenheap.kinds import is_integer

LEAST_YOUNG = 8
MOST_YOUNG = 100000
MOST_OLD = 1000000
MOST_PACE = 1000


class Room:
    """The words of the nursery and of each half, and how many things are looked at behind each make."""

    def __init__(self, young, old, pace):
        if not is_integer(young) or not LEAST_YOUNG <= young <= MOST_YOUNG:
            raise BadRoom("young")
        if not is_integer(old) or not young <= old <= MOST_OLD:
            raise BadRoom("old")
        if not is_integer(pace) or not 0 <= pace <= MOST_PACE:
            raise BadRoom("pace")
        self.young = young
        self.old = old
        self.pace = pace

    def __eq__(self, other):
        return (
            isinstance(other, Room) and self.young == other.young and self.old == other.old
            and self.pace == other.pace
        )


def check_room(thing):
    """Refuse what is neither a room nor None, which stands for an endless heap."""
    if thing is not None and not isinstance(thing, Room):
        raise NoRoom()
