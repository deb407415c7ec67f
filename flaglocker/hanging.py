"""Hanging: words hung together by a locker, or the wants and flags that show why they can't be."""

from flaglocker.errors import Lack, Short
from flaglocker.flags import FLAGS, is_flag
from flaglocker.hoists import is_hoist, read_of
from flaglocker.lockers import plain_locker, taken
from flaglocker.wants import choices_at, hoists_of, wants_of


def choices_of(words):
    choices = {}
    for want in wants_of(words):
        choices[want] = choices_at(words[want[0]], want[1])
    return choices


# A want asks for its choices; where one of them hangs already, the want that has it could take another of its own,
# and so on. Told are all flags that are asked for so, each with the want that would take it.
def asked_from(first, choices, hung):
    asked = {}
    reached = [first]
    at = 0
    while at < len(reached):
        asking = reached[at]
        for flag in choices[asking]:
            if flag not in asked:
                asked[flag] = asking
                reached.extend([want for want in hung if hung[want] == flag])
        at = at + 1
    return asked


def hang_along(flag, asked, hung):
    # Each want on the way gives up the flag that the one ahead asked it for; the first one has none to give.
    while flag is not None:
        want = asked[flag]
        given = hung.get(want)
        hung[want] = flag
        flag = given


def hang_all(locker, words):
    choices = choices_of(words)
    left = plain_locker(locker)
    hung = {}
    for first in choices:
        asked = asked_from(first, choices, hung)
        free = [flag for flag in asked if left.get(flag, 0) > 0]
        if free == []:
            # All that hang by these flags ask for no others, and `first` is one more than the flags that there are.
            wants = [want for want in choices if want == first or hung.get(want) in asked]
            raise Lack(wants, [flag for flag in FLAGS if flag in asked])
        left[free[0]] = left[free[0]] - 1
        hang_along(free[0], asked, hung)
    return hoists_of(words, [hung[want] for want in choices])


# None where the words can hang together, so that those who only try need not take the refusal themselves.
def lack_of(locker, words):
    try:
        hang_all(locker, words)
    except Lack as lack:
        return (lack.wants, lack.flags)
    return None


def can_hang(locker, words):
    return lack_of(locker, words) is None


def can_take(locker, flags):
    try:
        taken(locker, flags)
    except Short:
        return False
    return True


def is_hanging(locker, words, hoists):
    if len(hoists) != len(words):
        return False
    flags = []
    for word, hoist in zip(words, hoists):
        if not is_hoist(hoist) or read_of(hoist) != word:
            return False
        flags.extend(hoist)
    return can_take(locker, flags)


def is_lack(locker, words, wants, flags):
    if len(set(wants)) < len(wants) or len(set(flags)) < len(flags):
        return False
    if not all([is_flag(flag) for flag in flags]):
        return False
    choices = choices_of(words)
    for want in wants:
        if want not in choices or not all([flag in flags for flag in choices[want]]):
            return False
    return len(wants) > sum([locker.get(flag, 0) for flag in flags])
