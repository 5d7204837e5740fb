"""The store beneath a heap or a machine: a bound one, or an endless one."""

from unseenheap.bounded import Bound
from unseenheap.endless import Endless
from unseenheap.errors import NoRoom
from unseenheap.layouts import Layout


def store_for(room, owner):
    """A store without things, with this room, or, for None, an endless one."""
    return Endless(owner) if room is None else Bound(room, owner)


def layout_with(store, roots):
    """What lies in a bound store, with these roots."""
    if store.room is None:
        raise NoRoom()
    return Layout(
        store.room, store.told_words(), store.use, store.free, store.scan, store.top, store.left, store.copied,
        tuple(store.remembered), roots, store.last,
    )
