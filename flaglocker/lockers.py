"""Lockers: how many there are of each flag, told plain; flags taken out and put in."""

from flaglocker.errors import Short
from flaglocker.flags import FLAGS

MOST_OF_A_FLAG = 99


def plain_locker(locker):
    # Along FLAGS, so that alike lockers are told in one order, however they came.
    plain = {}
    for flag in FLAGS:
        if locker.get(flag, 0) > 0:
            plain[flag] = locker[flag]
    return plain


def taken(locker, flags):
    left = plain_locker(locker)
    for flag in flags:
        if left.get(flag, 0) == 0:
            raise Short(flag)
        left[flag] = left[flag] - 1
    return plain_locker(left)


def put_in(locker, flags):
    more = plain_locker(locker)
    for flag in flags:
        more[flag] = more.get(flag, 0) + 1
    return plain_locker(more)
