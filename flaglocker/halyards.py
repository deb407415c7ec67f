"""Halyards: a word hung on one of them, with the fewest others lowered and hung again."""

from flaglocker.choosing import rising_lists
from flaglocker.errors import Lack
from flaglocker.hanging import hang_all, lack_of
from flaglocker.hoists import read_of
from flaglocker.lockers import put_in, taken

MOST_HALYARDS = 6


def others_hung(halyards, number):
    return [other for other, hoist in enumerate(halyards) if hoist is not None and other != number]


def flags_on(halyards, numbers):
    flags = []
    for number in numbers:
        if halyards[number] is not None:
            flags.extend(halyards[number])
    return flags


# Smaller sets first, and those as small in the order in which Python compares lists.
def sets_of(others):
    sets = []
    for many in range(len(others) + 1):
        sets.extend(rising_lists(others, many))
    return sets


def words_with(halyards, word, lowered):
    return [word] + [read_of(halyards[other]) for other in lowered]


# The sets are tried from the least on, so the papers that are asked for are those of all that come ahead of the first
# that does.
def least_set(locker, halyards, number, word):
    papers = []
    for lowered in sets_of(others_hung(halyards, number)):
        more = put_in(locker, flags_on(halyards, [number] + lowered))
        lack = lack_of(more, words_with(halyards, word, lowered))
        if lack is None:
            return (lowered, papers)
        papers.append((lowered, lack[0], lack[1]))
    # The set that was tried last is that of all others, for which the refusal is due.
    raise Lack(papers[-1][1], papers[-1][2])


def hauled(locker, halyards, number, word):
    lowered = least_set(locker, halyards, number, word)[0]
    rehung = [number] + lowered
    more = put_in(locker, flags_on(halyards, rehung))
    # Copies of the hoists that stay, too, so that what is told is the asker's own.
    behind = [None if hoist is None else list(hoist) for hoist in halyards]
    for at, hoist in zip(rehung, hang_all(more, words_with(halyards, word, lowered))):
        behind[at] = hoist
    return (lowered, behind, taken(more, flags_on(behind, rehung)))


def hauling_papers(locker, halyards, number, word):
    return least_set(locker, halyards, number, word)[1]
