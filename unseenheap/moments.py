"""Moments: what is done at which ticks."""

from unseenheap.errors import NoMoments
from unseenheap.kinds import is_integer

MOST_TICK = 10 ** 9
MOST_STEPS = 10 ** 9
DEEDS = ("switch", "sweep", "young", "turn", "whole")


def check_moments(moments):
    """Refuse what are no moments, with the first pair that can't stand there."""
    if not isinstance(moments, tuple):
        raise NoMoments(-1)
    least = 1
    for at, moment in enumerate(moments):
        if not is_moment(moment) or moment[0] < least:
            raise NoMoments(at)
        least = moment[0]


def is_moment(thing):
    """Whether a thing is a pair of a tick and a deed."""
    if not isinstance(thing, tuple) or len(thing) != 2:
        return False
    return is_integer(thing[0]) and 1 <= thing[0] <= MOST_TICK and is_deed(thing[1])


def is_deed(thing):
    """Whether a thing is what may be done at a tick."""
    if isinstance(thing, str):
        return thing in DEEDS
    if not isinstance(thing, tuple) or len(thing) != 2:
        return False
    word, many = thing
    return isinstance(word, str) and word == "steps" and is_integer(many) and 0 <= many <= MOST_STEPS
