"""Hoists: what one is, and the word to which it reads."""

from flaglocker.errors import NoHoist
from flaglocker.flags import MOST_PLACES, SUBSTITUTES, is_flag


def may_stand(text, place):
    if not is_flag(text):
        return False
    if text in SUBSTITUTES:
        return int(text) < place
    return True


def is_hoist(flags):
    if len(flags) < 1 or len(flags) > MOST_PLACES:
        return False
    return all([may_stand(text, place) for place, text in enumerate(flags, start=1)])


def read_of(flags):
    if not is_hoist(flags):
        raise NoHoist("these flags are no hoist")
    word = ""
    for flag in flags:
        if flag in SUBSTITUTES:
            # In a hoist a substitute stands for a place above it, which is read by now.
            word = word + word[int(flag) - 1]
        else:
            word = word + flag
    return word
