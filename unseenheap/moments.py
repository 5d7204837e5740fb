"""Moments: what is done at which ticks, and how many ticks are counted."""

from unseenheap.errors import NoMoments, NoNumber
from unseenheap.kinds import is_integer

MOST_TICK = 10 ** 9
MOST_STEPS = 10 ** 9
MOST_COUNTED = 10 ** 6
DEEDS = ("switch", "sweep", "young", "turn", "whole")


def check_moments(moments):
    """Refuse what are no moments, with the first pair that can't stand there."""
    if not isinstance(moments, tuple):
        raise NoMoments(-1)
    least = 1
    for at, moment in enumerate(moments):
        if not is_moment(moment) or moment[0] < least:
            raise NoMoments(at)
        least = moment[0]


def is_moment(thing):
    """Whether a thing is a pair of a tick and a deed."""
    if not isinstance(thing, tuple) or len(thing) != 2:
        return False
    return is_integer(thing[0]) and 1 <= thing[0] <= MOST_TICK and is_deed(thing[1])


def is_deed(thing):
    """Whether a thing is what may be done at a tick."""
    if isinstance(thing, str):
        return thing in DEEDS
    if not isinstance(thing, tuple) or len(thing) != 2:
        return False
    word, many = thing
    return isinstance(word, str) and word == "steps" and is_many_steps(many)


def is_many_steps(thing):
    """Whether a thing is how many things the collector may be told to look at."""
    return is_integer(thing) and 0 <= thing <= MOST_STEPS


def check_most(most):
    """Refuse what is no number of ticks up to which a run may go on."""
    if not is_integer(most) or not 0 <= most <= MOST_COUNTED:
        raise NoNumber()
